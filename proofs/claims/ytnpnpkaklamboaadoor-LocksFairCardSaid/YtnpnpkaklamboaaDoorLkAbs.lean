/- A name's queue, told plainly, whatever goes together with what: holds, those that want more, wishes. No program in sight. -/
import Derived.Test.YtnpnpkaklamboaaDoorBk
set_option linter.unusedVariables false
set_option linter.unusedSimpArgs false
namespace Go.Proofs.YtnpnpkaklamboaaDoor

/-- A hold: whose, its mode, what it wants (0: nothing more). -/
structure Hold where
  x : Int
  m : Nat
  w : Nat
structure Que where
  hs : List Hold
  eg : List Int
  ws : List (Int × Nat)
def Que.nil : Que := ⟨[], [], []⟩
section
variable (cp : Nat → Nat → Bool)
/-- Does a mode go together with what all others hold? -/
def Que.free (q : Que) (x : Int) (m : Nat) : Bool := q.hs.all fun h => h.x == x || cp m h.m
/-- A hold at its place. -/
def insH (h : Hold) : List Hold → List Hold
  | [] => [h]
  | g :: l => if g.x < h.x then g :: insH h l else h :: g :: l
def setH (x : Int) (f : Hold → Hold) (l : List Hold) : List Hold := l.map fun h => if h.x = x then f h else h
def getH (x : Int) (l : List Hold) : Option Hold := l.find? fun h => h.x == x
def Que.ask (jn : Nat → Nat → Nat) (q : Que) (x : Int) (m : Nat) : Que × Bool :=
  match getH x q.hs with
  | .none => if q.ws = [] ∧ q.eg = [] ∧ q.free cp x m = true then ({ q with hs := insH ⟨x, m, 0⟩ q.hs }, true) else ({ q with ws := q.ws ++ [(x, m)] }, false)
  | .some h => if jn h.m m = h.m ∨ q.free cp x (jn h.m m) = true then ({ q with hs := setH x (fun h' => { h' with m := jn h.m m }) q.hs }, true)
      else ({ q with hs := setH x (fun h' => { h' with w := jn h.m m }) q.hs, eg := q.eg ++ [x] }, false)
def Que.leave (q : Que) (x : Int) : Que := ⟨q.hs.filter fun h => h.x != x, q.eg.filter fun y => y != x, q.ws.filter fun p => p.1 != x⟩
theorem insH_mem {h g : Hold} : ∀ {l : List Hold}, g ∈ insH h l ↔ g = h ∨ g ∈ l
  | [] => by simp [insH]
  | k :: l => by
    unfold insH
    by_cases e : k.x < h.x
    · rw [if_pos e, List.mem_cons, insH_mem (l := l), List.mem_cons]
      constructor
      · rintro (h1 | h1 | h1)
        · exact .inr (.inl h1)
        · exact .inl h1
        · exact .inr (.inr h1)
      · rintro (h1 | h1 | h1)
        · exact .inr (.inl h1)
        · exact .inl h1
        · exact .inr (.inr h1)
    · rw [if_neg e, List.mem_cons]
theorem insH_sorted {h : Hold} : ∀ {l : List Hold}, l.Pairwise (fun a b => a.x < b.x) → (∀ g, g ∈ l → g.x ≠ h.x) → (insH h l).Pairwise fun a b => a.x < b.x
  | [], _, _ => by simp [insH]
  | k :: l, hp, hn => by
    rw [List.pairwise_cons] at hp
    unfold insH
    by_cases e : k.x < h.x
    · rw [if_pos e, List.pairwise_cons]
      refine ⟨fun g hg => ?_, insH_sorted hp.2 fun g hg => hn g (List.mem_cons_of_mem _ hg)⟩
      rcases insH_mem.1 hg with rfl | hg
      · exact e
      · exact hp.1 g hg
    · rw [if_neg e, List.pairwise_cons]
      have h1 : h.x < k.x := by have := hn k List.mem_cons_self; omega
      refine ⟨fun g hg => ?_, List.pairwise_cons.2 hp⟩
      rcases List.mem_cons.1 hg with rfl | hg
      · exact h1
      · have := hp.1 g hg; omega
variable {cp}
theorem free_iff {q : Que} {x : Int} {m : Nat} : q.free cp x m = true ↔ ∀ h, h ∈ q.hs → h.x ≠ x → cp m h.m = true := by
  unfold Que.free
  rw [List.all_eq_true]
  constructor
  · intro h g hg hne
    have := h g hg
    rw [Bool.or_eq_true] at this
    rcases this with h1 | h1
    · exact absurd (by simpa using h1) hne
    · exact h1
  · intro h g hg
    rw [Bool.or_eq_true]
    by_cases e : g.x = x
    · left; simp [e]
    · right; exact h g hg e
theorem setH_mem {x : Int} {f : Hold → Hold} {l : List Hold} {g : Hold} : g ∈ setH x f l ↔ ∃ h, h ∈ l ∧ g = if h.x = x then f h else h := by
  unfold setH
  rw [List.mem_map]
  constructor
  · rintro ⟨h, h1, h2⟩; exact ⟨h, h1, h2.symm⟩
  · rintro ⟨h, h1, h2⟩; exact ⟨h, h1, h2.symm⟩
theorem setH_sorted {x : Int} {f : Hold → Hold} (hf : ∀ h, (f h).x = h.x) {l : List Hold} (h : l.Pairwise fun a b => a.x < b.x) : (setH x f l).Pairwise fun a b => a.x < b.x := by
  unfold setH
  rw [List.pairwise_map]
  refine h.imp fun {a b} hab => ?_
  have e : ∀ c : Hold, (if c.x = x then f c else c).x = c.x := fun c => by by_cases e : c.x = x <;> simp [e, hf]
  rw [e, e]
  exact hab
theorem getH_some {x : Int} {l : List Hold} {h : Hold} (e : getH x l = some h) : h ∈ l ∧ h.x = x := by
  unfold getH at e
  exact ⟨List.mem_of_find?_eq_some e, by have := List.find?_some e; simpa using this⟩
theorem getH_none {x : Int} {l : List Hold} (e : getH x l = none) : ∀ h, h ∈ l → h.x ≠ x := by
  unfold getH at e
  rw [List.find?_eq_none] at e
  intro h hh
  have := e h hh
  simpa using this
theorem one_hold {l : List Hold} (h : l.Pairwise fun a b => a.x < b.x) {a b : Hold} (ha : a ∈ l) (hb : b ∈ l) (e : a.x = b.x) : a = b := by
  induction l with
  | nil => cases ha
  | cons c l ih =>
    rw [List.pairwise_cons] at h
    rcases List.mem_cons.1 ha with h1 | ha
    · rcases List.mem_cons.1 hb with h2 | hb
      · rw [h1, h2]
      · have := h.1 b hb; rw [← h1] at this; omega
    · rcases List.mem_cons.1 hb with h2 | hb
      · have := h.1 a ha; rw [← h2] at this; omega
      · exact ih h.2 ha hb
/-- What a queue keeps to: the holds go together; those that want more are eager. -/
structure Que.ok (cp : Nat → Nat → Bool) (q : Que) : Prop where
  so : q.hs.Pairwise fun a b => a.x < b.x
  mo : ∀ h, h ∈ q.hs → h.m ≠ 0
  go : ∀ a b, a ∈ q.hs → b ∈ q.hs → a.x ≠ b.x → cp a.m b.m = true
  eg : ∀ x, x ∈ q.eg ↔ ∃ h, h ∈ q.hs ∧ h.x = x ∧ h.w ≠ 0
  en : q.eg.Nodup
  wn : ∀ p, p ∈ q.ws → ∀ h, h ∈ q.hs → h.x ≠ p.1
  ww : (q.ws.map (·.1)).Nodup
  wm : ∀ p, p ∈ q.ws → p.2 ≠ 0
/-- Nothing can be given: each that is eager stands against somebody; the first wish, too, where nobody is eager. -/
structure Que.still (cp : Nat → Nat → Bool) (q : Que) : Prop where
  ea : ∀ h, h ∈ q.hs → h.w ≠ 0 → q.free cp h.x h.w = false
  wi : q.eg = [] → ∀ p l, q.ws = p :: l → q.free cp p.1 p.2 = false
theorem Que.ok.nil : (Que.nil).ok cp := ⟨.nil, fun h hh => (by cases hh), fun a b ha => (by cases ha), fun x => ⟨fun h => (by cases h), fun ⟨h, hh, _⟩ => (by cases hh)⟩, .nil, fun p hp => (by cases hp), .nil, fun p hp => (by cases hp)⟩
theorem Que.ok.add (sy : ∀ a b, cp a b = cp b a) {q : Que} (h : q.ok cp) {x : Int} {m : Nat} (hm : m ≠ 0) (hn : ∀ g, g ∈ q.hs → g.x ≠ x) (hw : ∀ p, p ∈ q.ws → p.1 ≠ x) (hf : q.free cp x m = true) : Que.ok cp { q with hs := insH ⟨x, m, 0⟩ q.hs } where
  so := insH_sorted h.so hn
  mo := fun g hg => by
    rcases insH_mem.1 hg with rfl | hg
    · exact hm
    · exact h.mo g hg
  go := fun a b ha hb hab => by
    rcases insH_mem.1 ha with rfl | ha
    · rcases insH_mem.1 hb with rfl | hb
      · exact absurd rfl hab
      · exact free_iff.1 hf b hb (Ne.symm hab)
    · rcases insH_mem.1 hb with rfl | hb
      · rw [sy]; exact free_iff.1 hf a ha hab
      · exact h.go a b ha hb hab
  eg := fun y => by
    rw [show (Que.eg { q with hs := insH ⟨x, m, 0⟩ q.hs }) = q.eg from rfl, h.eg y]
    constructor
    · rintro ⟨g, hg, h1⟩; exact ⟨g, insH_mem.2 (.inr hg), h1⟩
    · rintro ⟨g, hg, h1, h2⟩
      rcases insH_mem.1 hg with rfl | hg
      · exact absurd rfl h2
      · exact ⟨g, hg, h1, h2⟩
  en := h.en
  wn := fun p hp g hg => by
    rcases insH_mem.1 hg with rfl | hg
    · exact fun e => hw p hp e.symm
    · exact h.wn p hp g hg
  ww := h.ww
  wm := h.wm
/-- A hold's mode becomes another one that goes together with the others'. -/
theorem Que.ok.raise (sy : ∀ a b, cp a b = cp b a) {q : Que} (h : q.ok cp) {g : Hold} (hg : g ∈ q.hs) {j : Nat} (hj : j ≠ 0) (hf : j = g.m ∨ q.free cp g.x j = true) : Que.ok cp { q with hs := setH g.x (fun h' => { h' with m := j }) q.hs } where
  so := setH_sorted (f := fun h' : Hold => { h' with m := j }) (fun _ => rfl) h.so
  mo := fun k hk => by
    obtain ⟨k', hk', rfl⟩ := setH_mem.1 hk
    by_cases e : k'.x = g.x
    · rw [if_pos e]; exact hj
    · rw [if_neg e]; exact h.mo k' hk'
  go := fun a b ha hb hab => by
    obtain ⟨a', ha', rfl⟩ := setH_mem.1 ha
    obtain ⟨b', hb', rfl⟩ := setH_mem.1 hb
    have cj : ∀ c, c ∈ q.hs → c.x ≠ g.x → cp j c.m = true := fun c hc hne => by
      rcases hf with hf | hf
      · rw [hf]; exact h.go g c hg hc (Ne.symm hne)
      · exact free_iff.1 hf c hc hne
    by_cases e1 : a'.x = g.x
    · by_cases e2 : b'.x = g.x
      · rw [if_pos e1, if_pos e2] at hab
        exact absurd (show a'.x = b'.x by rw [e1, e2]) hab
      · rw [if_pos e1, if_neg e2]; exact cj b' hb' e2
    · by_cases e2 : b'.x = g.x
      · rw [if_neg e1, if_pos e2, sy]; exact cj a' ha' e1
      · rw [if_neg e1, if_neg e2] at hab ⊢; exact h.go a' b' ha' hb' hab
  eg := fun y => by
    rw [show (Que.eg { q with hs := setH g.x (fun h' => { h' with m := j }) q.hs }) = q.eg from rfl, h.eg y]
    constructor
    · rintro ⟨k, hk, h1, h2⟩
      refine ⟨_, setH_mem.2 ⟨k, hk, rfl⟩, ?_, ?_⟩
      · by_cases e : k.x = g.x <;> simp [e] <;> first | exact h1 | (rw [← e]; exact h1)
      · by_cases e : k.x = g.x <;> simp [e] <;> exact h2
    · rintro ⟨k, hk, h1, h2⟩
      obtain ⟨k', hk', rfl⟩ := setH_mem.1 hk
      refine ⟨k', hk', ?_, ?_⟩
      · by_cases e : k'.x = g.x
        · rw [if_pos e] at h1; exact h1
        · rw [if_neg e] at h1; exact h1
      · by_cases e : k'.x = g.x
        · rw [if_pos e] at h2; exact h2
        · rw [if_neg e] at h2; exact h2
  en := h.en
  wn := fun p hp k hk => by
    obtain ⟨k', hk', rfl⟩ := setH_mem.1 hk
    by_cases e : k'.x = g.x
    · rw [if_pos e]; exact h.wn p hp k' hk'
    · rw [if_neg e]; exact h.wn p hp k' hk'
  ww := h.ww
  wm := h.wm
/-- A hold wants a greater mode. -/
theorem Que.ok.want {q : Que} (h : q.ok cp) {g : Hold} (hg : g ∈ q.hs) (hw : g.w = 0) {j : Nat} (hj : j ≠ 0) : Que.ok cp { q with hs := setH g.x (fun h' => { h' with w := j }) q.hs, eg := q.eg ++ [g.x] } where
  so := setH_sorted (f := fun h' : Hold => { h' with w := j }) (fun _ => rfl) h.so
  mo := fun k hk => by
    obtain ⟨k', hk', rfl⟩ := setH_mem.1 hk
    by_cases e : k'.x = g.x
    · rw [if_pos e]; exact h.mo k' hk'
    · rw [if_neg e]; exact h.mo k' hk'
  go := fun a b ha hb hab => by
    obtain ⟨a', ha', rfl⟩ := setH_mem.1 ha
    obtain ⟨b', hb', rfl⟩ := setH_mem.1 hb
    have ex : ∀ c : Hold, (if c.x = g.x then { c with w := j } else c).x = c.x ∧ (if c.x = g.x then { c with w := j } else c).m = c.m := fun c => by by_cases e : c.x = g.x <;> simp [e]
    rw [(ex a').1, (ex b').1] at hab
    rw [(ex a').2, (ex b').2]
    exact h.go a' b' ha' hb' hab
  eg := fun y => by
    show y ∈ q.eg ++ [g.x] ↔ _
    rw [List.mem_append, List.mem_singleton, h.eg y]
    constructor
    · rintro (⟨k, hk, h1, h2⟩ | rfl)
      · refine ⟨_, setH_mem.2 ⟨k, hk, rfl⟩, ?_, ?_⟩
        · by_cases e : k.x = g.x
          · rw [if_pos e]; exact h1
          · rw [if_neg e]; exact h1
        · by_cases e : k.x = g.x
          · rw [if_pos e]; exact hj
          · rw [if_neg e]; exact h2
      · exact ⟨_, setH_mem.2 ⟨g, hg, rfl⟩, by rw [if_pos rfl], by rw [if_pos rfl]; exact hj⟩
    · rintro ⟨k, hk, h1, h2⟩
      obtain ⟨k', hk', rfl⟩ := setH_mem.1 hk
      by_cases e : k'.x = g.x
      · rw [if_pos e] at h1; right; exact h1.symm.trans e
      · rw [if_neg e] at h1 h2; left; exact ⟨k', hk', h1, h2⟩
  en := by
    show (q.eg ++ [g.x]).Nodup
    rw [List.nodup_append]
    refine ⟨h.en, by simp, fun y hy z hz e => ?_⟩
    rw [List.mem_singleton] at hz
    subst hz
    subst e
    obtain ⟨k, hk, h1, h2⟩ := (h.eg _).1 hy
    rw [one_hold h.so hk hg h1] at h2
    exact h2 hw
  wn := fun p hp k hk => by
    obtain ⟨k', hk', rfl⟩ := setH_mem.1 hk
    by_cases e : k'.x = g.x
    · rw [if_pos e]; exact h.wn p hp k' hk'
    · rw [if_neg e]; exact h.wn p hp k' hk'
  ww := h.ww
  wm := h.wm
/-- A wish more. -/
theorem Que.ok.wish {q : Que} (h : q.ok cp) {x : Int} {m : Nat} (hm : m ≠ 0) (hn : ∀ g, g ∈ q.hs → g.x ≠ x) (hw : ∀ p, p ∈ q.ws → p.1 ≠ x) : Que.ok cp { q with ws := q.ws ++ [(x, m)] } where
  so := h.so
  mo := h.mo
  go := h.go
  eg := h.eg
  en := h.en
  wn := fun p hp g hg => by
    rcases List.mem_append.1 hp with hp | hp
    · exact h.wn p hp g hg
    · rw [List.mem_singleton] at hp; subst hp; exact hn g hg
  ww := by
    show ((q.ws ++ [(x, m)]).map (·.1)).Nodup
    rw [List.map_append, List.nodup_append]
    refine ⟨h.ww, by simp, fun y hy z hz e => ?_⟩
    obtain ⟨p, hp, rfl⟩ := List.mem_map.1 hy
    have hz2 : z = x := by simpa using hz
    exact hw p hp (e.trans hz2)
  wm := fun p hp => by
    rcases List.mem_append.1 hp with hp | hp
    · exact h.wm p hp
    · rw [List.mem_singleton] at hp; subst hp; exact hm
/-- A transaction is taken out. -/
theorem Que.ok.leave {q : Que} (h : q.ok cp) (x : Int) : (q.leave x).ok cp where
  so := h.so.sublist List.filter_sublist
  mo := fun g hg => h.mo g (List.mem_filter.1 hg).1
  go := fun a b ha hb => h.go a b (List.mem_filter.1 ha).1 (List.mem_filter.1 hb).1
  eg := fun y => by
    show y ∈ q.eg.filter _ ↔ _
    rw [List.mem_filter, h.eg y]
    constructor
    · rintro ⟨⟨g, hg, h1, h2⟩, h3⟩
      exact ⟨g, List.mem_filter.2 ⟨hg, by rw [h1]; exact h3⟩, h1, h2⟩
    · rintro ⟨g, hg, h1, h2⟩
      obtain ⟨hg, h3⟩ := List.mem_filter.1 hg
      exact ⟨⟨g, hg, h1, h2⟩, by rw [← h1]; exact h3⟩
  en := h.en.sublist List.filter_sublist
  wn := fun p hp g hg => h.wn p (List.mem_filter.1 hp).1 g (List.mem_filter.1 hg).1
  ww := h.ww.sublist (List.Sublist.map _ List.filter_sublist)
  wm := fun p hp => h.wm p (List.mem_filter.1 hp).1
/-- An eager one is given what it wants. -/
def Que.grant (q : Que) (g : Hold) : Que := { q with hs := setH g.x (fun h' => ⟨h'.x, h'.w, 0⟩) q.hs, eg := q.eg.erase g.x }
theorem Que.ok.grant (sy : ∀ a b, cp a b = cp b a) {q : Que} (h : q.ok cp) {g : Hold} (hg : g ∈ q.hs) (hw : g.w ≠ 0) (hf : q.free cp g.x g.w = true) : (q.grant g).ok cp where
  so := setH_sorted (f := fun h' : Hold => ⟨h'.x, h'.w, 0⟩) (fun _ => rfl) h.so
  mo := fun k hk => by
    obtain ⟨k', hk', rfl⟩ := setH_mem.1 hk
    by_cases e : k'.x = g.x
    · rw [if_pos e, one_hold h.so hk' hg e]; exact hw
    · rw [if_neg e]; exact h.mo k' hk'
  go := fun a b ha hb hab => by
    obtain ⟨a', ha', rfl⟩ := setH_mem.1 ha
    obtain ⟨b', hb', rfl⟩ := setH_mem.1 hb
    by_cases e1 : a'.x = g.x
    · by_cases e2 : b'.x = g.x
      · rw [if_pos e1, if_pos e2] at hab
        exact absurd (show a'.x = b'.x by rw [e1, e2]) hab
      · rw [if_pos e1, if_neg e2, one_hold h.so ha' hg e1]; exact free_iff.1 hf b' hb' e2
    · by_cases e2 : b'.x = g.x
      · rw [if_neg e1, if_pos e2, one_hold h.so hb' hg e2, sy]; exact free_iff.1 hf a' ha' e1
      · rw [if_neg e1, if_neg e2] at hab ⊢; exact h.go a' b' ha' hb' hab
  eg := fun y => by
    show y ∈ q.eg.erase g.x ↔ _
    rw [h.en.mem_erase_iff, h.eg y]
    constructor
    · rintro ⟨hne, k, hk, h1, h2⟩
      have e : ¬ k.x = g.x := fun e => hne (by rw [← h1, e])
      exact ⟨k, setH_mem.2 ⟨k, hk, by rw [if_neg e]⟩, h1, h2⟩
    · rintro ⟨k, hk, h1, h2⟩
      obtain ⟨k', hk', rfl⟩ := setH_mem.1 hk
      by_cases e : k'.x = g.x
      · rw [if_pos e] at h2; exact absurd rfl h2
      · rw [if_neg e] at h1 h2
        exact ⟨fun e2 => e (by rw [h1, e2]), k', hk', h1, h2⟩
  en := h.en.erase _
  wn := fun p hp k hk => by
    obtain ⟨k', hk', rfl⟩ := setH_mem.1 hk
    by_cases e : k'.x = g.x
    · rw [if_pos e]; exact h.wn p hp k' hk'
    · rw [if_neg e]; exact h.wn p hp k' hk'
  ww := h.ww
  wm := h.wm
/-- The first wish is given. -/
theorem Que.ok.first (sy : ∀ a b, cp a b = cp b a) {q : Que} (h : q.ok cp) {p : Int × Nat} {l : List (Int × Nat)} (hp : q.ws = p :: l) (hf : q.free cp p.1 p.2 = true) : Que.ok cp ⟨insH ⟨p.1, p.2, 0⟩ q.hs, q.eg, l⟩ := by
  have hw := h.ww
  rw [hp, List.map_cons, List.nodup_cons] at hw
  have hk : Que.ok cp ⟨q.hs, q.eg, l⟩ := ⟨h.so, h.mo, h.go, h.eg, h.en, fun r hr => h.wn r (by rw [hp]; exact List.mem_cons_of_mem _ hr), hw.2, fun r hr => h.wm r (by rw [hp]; exact List.mem_cons_of_mem _ hr)⟩
  exact hk.add sy (x := p.1) (m := p.2) (h.wm p (by rw [hp]; exact List.mem_cons_self)) (h.wn p (by rw [hp]; exact List.mem_cons_self)) (fun r hr e => hw.1 (by rw [← e]; exact List.mem_map.2 ⟨r, hr, rfl⟩)) (by
    rw [free_iff] at hf ⊢
    exact hf)
/-- A wait has its cause: an eager one stands against a hold; a wish against a hold, one that is eager, or a wish ahead of it. -/
theorem Que.still.cause {q : Que} (h : q.ok cp) (s : q.still cp) : (∀ g, g ∈ q.hs → g.w ≠ 0 → ∃ k, k ∈ q.hs ∧ k.x ≠ g.x ∧ cp g.w k.m = false) ∧
    (∀ A p B, q.ws = A ++ p :: B → (∃ k, k ∈ q.hs ∧ k.x ≠ p.1 ∧ (k.w ≠ 0 ∨ cp p.2 k.m = false)) ∨ ∃ r, r ∈ A ∧ r.1 ≠ p.1) := by
  have nf : ∀ (x : Int) (m : Nat), q.free cp x m = false → ∃ k, k ∈ q.hs ∧ k.x ≠ x ∧ cp m k.m = false := fun x m hf => by
    refine Classical.byContradiction fun hn => ?_
    have : q.free cp x m = true := free_iff.2 fun k hk hne => by
      cases hc : cp m k.m with
      | true => rfl
      | false => exact absurd ⟨k, hk, hne, hc⟩ hn
    rw [hf] at this
    cases this
  refine ⟨fun g hg hw => nf g.x g.w (s.ea g hg hw), fun A p B hq => ?_⟩
  have hp : p ∈ q.ws := by rw [hq]; simp
  cases A with
  | cons r A =>
    right
    refine ⟨r, List.mem_cons_self, fun e => ?_⟩
    have := h.ww
    rw [hq, List.cons_append, List.map_cons, List.nodup_cons] at this
    exact this.1 (by rw [e]; exact List.mem_map.2 ⟨p, by simp, rfl⟩)
  | nil =>
    left
    cases he : q.eg with
    | nil =>
      obtain ⟨k, hk, h1, h2⟩ := nf p.1 p.2 (s.wi he p B hq)
      exact ⟨k, hk, h1, .inr h2⟩
    | cons y l =>
      obtain ⟨k, hk, h1, h2⟩ := (h.eg y).1 (by rw [he]; exact List.mem_cons_self)
      exact ⟨k, hk, h.wn p hp k hk, .inl h2⟩
theorem free_no {q q' : Que} {x : Int} {m : Nat} (h : q.free cp x m = false) (hs : ∀ k, k ∈ q.hs → k.x ≠ x → ∃ k', k' ∈ q'.hs ∧ k'.x = k.x ∧ (cp m k'.m = true → cp m k.m = true)) : q'.free cp x m = false := by
  cases hf : q'.free cp x m with
  | false => rfl
  | true =>
    have : q.free cp x m = true := free_iff.2 fun k hk hne => by
      obtain ⟨k', h1, h2, h3⟩ := hs k hk hne
      exact h3 (free_iff.1 hf k' h1 (by rw [h2]; exact hne))
    rw [h] at this
    cases this
theorem Que.still.nil : (Que.nil).still cp := ⟨fun h hh => (by cases hh), fun _ p l h => (by cases h)⟩
theorem Que.still.add {q : Que} (h : q.ok cp) {x : Int} {m : Nat} (h1 : q.ws = []) (h2 : q.eg = []) : Que.still cp { q with hs := insH ⟨x, m, 0⟩ q.hs } where
  ea := fun g hg hw => by
    rcases insH_mem.1 hg with rfl | hg
    · exact absurd rfl hw
    · have := (h.eg g.x).2 ⟨g, hg, rfl, hw⟩
      rw [h2] at this
      cases this
  wi := fun _ p l hp => by
    have e : q.ws = p :: l := hp
    rw [h1] at e
    cases e
theorem Que.still.raise {q : Que} (s : q.still cp) {g : Hold} {j : Nat} (hc : ∀ k, k ∈ q.hs → k.x = g.x → ∀ a, cp a j = true → cp a k.m = true) : Que.still cp { q with hs := setH g.x (fun h' => { h' with m := j }) q.hs } := by
  have key : ∀ {x : Int} {m : Nat}, q.free cp x m = false → Que.free cp { q with hs := setH g.x (fun h' => { h' with m := j }) q.hs } x m = false := fun {x m} hf => free_no hf fun k hk _ => by
    refine ⟨_, setH_mem.2 ⟨k, hk, rfl⟩, ?_, ?_⟩
    · by_cases e : k.x = g.x
      · rw [if_pos e]
      · rw [if_neg e]
    · by_cases e : k.x = g.x
      · rw [if_pos e]; exact hc k hk e m
      · rw [if_neg e]; exact id
  refine ⟨fun k hk hw => ?_, fun he p l hp => key (s.wi he p l hp)⟩
  obtain ⟨k', hk', rfl⟩ := setH_mem.1 hk
  by_cases e : k'.x = g.x
  · rw [if_pos e] at hw ⊢; exact key (s.ea k' hk' hw)
  · rw [if_neg e] at hw ⊢; exact key (s.ea k' hk' hw)
theorem Que.still.want {q : Que} (s : q.still cp) {g : Hold} {j : Nat} (hf : q.free cp g.x j = false) : Que.still cp { q with hs := setH g.x (fun h' => { h' with w := j }) q.hs, eg := q.eg ++ [g.x] } := by
  have key : ∀ {x : Int} {m : Nat}, q.free cp x m = false → Que.free cp { q with hs := setH g.x (fun h' => { h' with w := j }) q.hs, eg := q.eg ++ [g.x] } x m = false := fun {x m} hf => free_no hf fun k hk _ => by
    refine ⟨_, setH_mem.2 ⟨k, hk, rfl⟩, ?_, ?_⟩
    · by_cases e : k.x = g.x
      · rw [if_pos e]
      · rw [if_neg e]
    · by_cases e : k.x = g.x
      · rw [if_pos e]; exact id
      · rw [if_neg e]; exact id
  refine ⟨fun k hk hw => ?_, fun he p l hp => ?_⟩
  · obtain ⟨k', hk', rfl⟩ := setH_mem.1 hk
    by_cases e : k'.x = g.x
    · rw [if_pos e]
      show Que.free cp _ k'.x j = false
      rw [e]
      exact key hf
    · rw [if_neg e] at hw ⊢; exact key (s.ea k' hk' hw)
  · have : q.eg ++ [g.x] = [] := he
    simp at this
theorem Que.still.wish {q : Que} (s : q.still cp) {x : Int} {m : Nat} (hn : ¬ (q.ws = [] ∧ q.eg = [] ∧ q.free cp x m = true)) : Que.still cp { q with ws := q.ws ++ [(x, m)] } where
  ea := s.ea
  wi := fun he p l hp => by
    have hp' : q.ws ++ [(x, m)] = p :: l := hp
    have he' : q.eg = [] := he
    cases hw : q.ws with
    | nil =>
      rw [hw, List.nil_append] at hp'
      injection hp' with e1 e2
      subst e1
      show Que.free cp q x m = false
      cases hf : q.free cp x m with
      | false => rfl
      | true => exact absurd ⟨hw, he', hf⟩ hn
    | cons r t =>
      rw [hw, List.cons_append] at hp'
      injection hp' with e1 e2
      subst e1
      exact s.wi he' r t hw
/-- Ask keeps a queue in order, and still; the answer tells whether the mode was given. -/
theorem Que.ask_ok (sy : ∀ a b, cp a b = cp b a) (jn : Nat → Nat → Nat) (mon : ∀ a b c, cp a (jn b c) = true → cp a b = true) (jz : ∀ a b, b ≠ 0 → jn a b ≠ 0) {q : Que} (h : q.ok cp) (s : q.still cp) {x : Int} {m : Nat} (hm : m ≠ 0) (hw : ∀ p, p ∈ q.ws → p.1 ≠ x) (he : x ∉ q.eg) : (q.ask cp jn x m).1.ok cp ∧ (q.ask cp jn x m).1.still cp := by
  unfold Que.ask
  cases hg : getH x q.hs with
  | none =>
    have hn := getH_none hg
    dsimp only
    split
    · rename_i hc
      exact ⟨h.add sy hm hn hw hc.2.2, .add h hc.1 hc.2.1⟩
    · rename_i hc
      exact ⟨h.wish hm hn hw, s.wish hc⟩
  | some g =>
    obtain ⟨h1, h2⟩ := getH_some hg
    subst h2
    dsimp only
    have hw0 : g.w = 0 := Classical.byContradiction fun hne => he ((h.eg g.x).2 ⟨g, h1, rfl, hne⟩)
    split
    · rename_i hc
      exact ⟨h.raise sy h1 (jz _ _ hm) hc, s.raise fun k hk e a ha => by rw [one_hold h.so hk h1 e]; exact mon a _ _ ha⟩
    · rename_i hc
      refine ⟨h.want h1 hw0 (jz _ _ hm), s.want ?_⟩
      cases hf : q.free cp g.x (jn g.m m) with
      | false => rfl
      | true => exact absurd (.inr hf) hc
end
end Go.Proofs.YtnpnpkaklamboaaDoor
