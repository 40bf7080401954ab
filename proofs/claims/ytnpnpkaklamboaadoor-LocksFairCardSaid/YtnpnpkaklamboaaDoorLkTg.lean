/- Who waits, and for whom: plain. -/
import Derived.Test.YtnpnpkaklamboaaDoorLkAllP
set_option linter.unusedVariables false
set_option linter.unusedSimpArgs false
namespace Go.Proofs.YtnpnpkaklamboaaDoor

theorem arc_hold {q : Que} {h k : Hold} (hh : h ∈ q.hs) (hw : h.w ≠ 0) (hk : k ∈ q.hs) (hx : k.x ≠ h.x) (hc : cpN h.w k.m = false) : (h.x, k.x) ∈ q.arcs := by
  unfold Que.arcs
  refine List.mem_append.2 (.inl (List.mem_flatMap.2 ⟨h, hh, ?_⟩))
  unfold aH
  rw [if_neg hw]
  refine List.mem_flatMap.2 ⟨k, hk, ?_⟩
  unfold aH1
  rw [if_pos (by simp [hx, hc])]
  exact List.mem_singleton.2 rfl
theorem arc_wish {q : Que} {A B : List (Int × Nat)} {p : Int × Nat} (e : q.ws = A ++ p :: B) {y : Int} (h : (∃ k, k ∈ q.hs ∧ k.x = y ∧ (k.w ≠ 0 ∨ cpN p.2 k.m = false)) ∨ ∃ r, r ∈ A ∧ r.1 = y) : (p.1, y) ∈ q.arcs := by
  unfold Que.arcs
  refine List.mem_append.2 (.inr (List.mem_flatMap.2 ⟨A.length, List.mem_range.2 (by rw [e]; simp), ?_⟩))
  unfold aW
  have e1 : q.ws[A.length]? = some p := by rw [e]; simp
  rw [e1]
  dsimp only
  rw [List.mem_append]
  rcases h with ⟨k, hk, rfl, hc⟩ | ⟨r, hr, rfl⟩
  · left
    refine List.mem_flatMap.2 ⟨k, hk, ?_⟩
    unfold aW1
    rw [if_pos (by rcases hc with hc | hc <;> simp [hc])]
    exact List.mem_singleton.2 rfl
  · right
    refine List.mem_flatMap.2 ⟨r, by rw [e]; simpa using hr, ?_⟩
    exact List.mem_singleton.2 rfl
/-- Whoever waits at a name waits for somebody who has something there. -/
theorem waits_arc {q : Que} (ok : q.ok cpN) (s : q.still cpN) {x : Int} (h : q.waits x) : ∃ y, (x, y) ∈ q.arcs ∧ q.has y := by
  have cs := Que.still.cause ok s
  rcases h with h | ⟨p, hp, rfl⟩
  · obtain ⟨g, hg, rfl, hw⟩ := (ok.eg x).1 h
    obtain ⟨k, hk, h1, h2⟩ := cs.1 g hg hw
    exact ⟨k.x, arc_hold hg hw hk h1 h2, .inl ⟨k, hk, rfl⟩⟩
  · obtain ⟨A, B, e⟩ := List.append_of_mem hp
    rcases cs.2 A p B e with ⟨k, hk, h1, h2⟩ | ⟨r, hr, h1⟩
    · exact ⟨k.x, arc_wish e (.inl ⟨k, hk, rfl, h2⟩), .inl ⟨k, hk, rfl⟩⟩
    · exact ⟨r.1, arc_wish e (.inr ⟨r, hr, rfl⟩), .inr ⟨r, by rw [e]; exact List.mem_append_left _ hr, rfl⟩⟩
theorem has_some {T : Tbl} {n : Nm} {y : Int} (h : (T.q n).has y) : ∃ q, T.qs n = some q ∧ q.has y := by
  cases e : T.qs n with
  | none =>
    rw [Tbl.q_none e] at h
    rcases h with ⟨h, hh, _⟩ | ⟨p, hp, _⟩ <;> cases (by assumption : _ ∈ [])
  | some q => exact ⟨q, rfl, by rwa [Tbl.q_some e] at h⟩
theorem waits_some {T : Tbl} (ok : T.ok cpN) {n : Nm} {y : Int} (h : (T.q n).waits y) : ∃ q, T.qs n = some q ∧ q.waits y := by
  obtain ⟨q, hq, _⟩ := has_some (waits_has (ok.at_ n).1 h)
  exact ⟨q, hq, by rwa [Tbl.q_some hq] at h⟩
theorem Tbl.cause {T : Tbl} (ok : T.ok cpN) {A : List (Int × Int)} (hA : T.arcsOf A) {x : Int} (h : (T.wt x).isSome = true) : ∃ n y, (x, y) ∈ A ∧ (T.q n).has y := by
  obtain ⟨n, hn⟩ := Option.isSome_iff_exists.1 h
  obtain ⟨q, hq, hw⟩ := waits_some ok ((ok.w x n).1 hn)
  obtain ⟨y, h1, h2⟩ := waits_arc (ok.q n q hq).1 (ok.q n q hq).2.1 hw
  exact ⟨n, y, (hA.2 _).2 ⟨n, q, hq, h1⟩, by rw [Tbl.q_some hq]; exact h2⟩
theorem lines_n {T : Tbl} {n : Nm} {a : H5} (h : a ∈ lines T n) : a.n = n := by
  unfold lines at h
  rcases List.mem_append.1 h with h | h
  · obtain ⟨g, _, rfl⟩ := List.mem_map.1 h; rfl
  · obtain ⟨g, _, rfl⟩ := List.mem_map.1 h; rfl
theorem all_has {T : Tbl} {A : List H5} (hA : T.allOf A) {n : Nm} {y : Int} (h : (T.q n).has y) : ∃ a, a ∈ A ∧ a.x = y := by
  obtain ⟨L, _, _, hm, rfl⟩ := hA
  obtain ⟨q, hq, _⟩ := has_some h
  have hn := (hm n).2 (by rw [hq]; rfl)
  rcases h with ⟨g, hg, rfl⟩ | ⟨p, hp, rfl⟩
  · exact ⟨_, List.mem_flatMap.2 ⟨n, hn, List.mem_append_left _ (List.mem_map.2 ⟨g, hg, rfl⟩)⟩, rfl⟩
  · exact ⟨_, List.mem_flatMap.2 ⟨n, hn, List.mem_append_right _ (List.mem_map.2 ⟨p, hp, rfl⟩)⟩, rfl⟩
theorem all_mem {T : Tbl} (ok : T.ok cpN) {A : List H5} (hA : T.allOf A) {a : H5} (ha : a ∈ A) : (T.q a.n).has a.x ∧ (a.w ≠ 0 → (T.wt a.x).isSome = true) := by
  obtain ⟨L, _, _, hm, rfl⟩ := hA
  obtain ⟨n, hn, hl⟩ := List.mem_flatMap.1 ha
  obtain rfl := lines_n hl
  unfold lines at hl
  have W : (T.q a.n).waits a.x → (T.wt a.x).isSome = true := fun h => by rw [(ok.w a.x a.n).2 h]; rfl
  rcases List.mem_append.1 hl with h | h
  · obtain ⟨g, hg, e⟩ := List.mem_map.1 h
    have e1 : a.x = g.x := by rw [← e]
    have e2 : a.w = g.w := by rw [← e]
    exact ⟨.inl ⟨g, hg, e1.symm⟩, fun hw => W (.inl (((ok.at_ a.n).1.eg a.x).2 ⟨g, hg, e1.symm, by rw [← e2]; exact hw⟩))⟩
  · obtain ⟨p, hp, e⟩ := List.mem_map.1 h
    have e1 : a.x = p.1 := by rw [← e]
    exact ⟨.inr ⟨p, hp, e1.symm⟩, fun _ => W (.inr ⟨p, hp, e1.symm⟩)⟩
/-- No two holds of one name stand against each other. -/
theorem all_pair {T : Tbl} (ok : T.ok cpN) {A : List H5} (hA : T.allOf A) : A.Pairwise fun a b => a.n = b.n → a.m ≠ 0 → b.m ≠ 0 → cpN a.m b.m = true := by
  obtain ⟨L, nd, _, hm, rfl⟩ := hA
  rw [List.pairwise_flatMap]
  refine ⟨fun n hn => ?_, nd.imp fun {x y} hne a ha b hb e => absurd ((lines_n ha).symm.trans (e.trans (lines_n hb))) hne⟩
  unfold lines
  rw [List.pairwise_append]
  refine ⟨?_, ?_, fun a ha b hb _ _ hz => ?_⟩
  · rw [List.pairwise_map]
    exact (ok.at_ n).1.so.imp_of_mem fun {a b} ha hb hlt _ _ _ => (ok.at_ n).1.go a b ha hb (by omega)
  · rw [List.pairwise_map]
    exact List.Pairwise.imp (R := fun _ _ => True) (fun _ _ hz _ => absurd rfl hz) (List.pairwise_of_forall fun _ _ => trivial)
  · obtain ⟨p, _, rfl⟩ := List.mem_map.1 hb
    exact absurd rfl hz
theorem all_nil {T : Tbl} {A : List (Int × Int)} {B : List H5} (ok : T.ok cpN) (hA : T.arcsOf A) (hB : T.allOf B) (e : B = []) : A = [] := by
  obtain ⟨L, _, _, hm, rfl⟩ := hB
  cases A with
  | nil => rfl
  | cons p l =>
    obtain ⟨n, q, h1, _⟩ := (hA.2 p).1 List.mem_cons_self
    have hn := (hm n).2 (by rw [h1]; rfl)
    have := (ok.q n q h1).2.2
    have hl : lines T n = [] := by
      rw [List.flatMap_eq_nil_iff] at e
      exact e n hn
    unfold lines at hl
    rw [List.append_eq_nil_iff, List.map_eq_nil_iff, List.map_eq_nil_iff, Tbl.q_some h1] at hl
    rcases this with h | h
    · exact absurd hl.1 h
    · exact absurd hl.2 h
/-- All who are in a table, or were. -/
def Tbl.in_ (T : Tbl) (X : List Int) : Prop := ∀ n y, (T.q n).has y → y ∈ X
theorem Tbl.in_.of {T : Tbl} {A : List H5} (hA : T.allOf A) : T.in_ (A.map (·.x)) := fun n y h => by
  obtain ⟨a, ha, rfl⟩ := all_has hA h
  exact List.mem_map.2 ⟨a, ha, rfl⟩
theorem Tbl.in_.release {T : Tbl} (ok : T.ok cpN) {X : List Int} (h : T.in_ X) (x : Int) : (T.release cpN x).in_ (X.filter (· != x)) := fun n y hy => by
  rw [Tbl.release_q lawN.sy ok] at hy
  have := ((rel_ok lawN.sy (ok.at_ n).1 (ok.at_ n).2 x).2.2.2.2 y).1 hy
  exact List.mem_filter.2 ⟨h n y this.1, by simpa using this.2⟩
theorem filter_short {X : List Int} {x : Int} (h : x ∈ X) : (X.filter (· != x)).length < X.length := by
  refine Nat.lt_of_le_of_ne (List.length_filter_le _ _) fun e => ?_
  have := List.length_filter_eq_length_iff.1 e x h
  simp at this
end Go.Proofs.YtnpnpkaklamboaaDoor
