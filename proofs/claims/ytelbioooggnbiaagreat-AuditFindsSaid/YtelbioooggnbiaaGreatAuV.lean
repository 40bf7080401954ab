/- A tree that hangs together, told as audit sees it; and one that does not. A volume with whatever stores: heaps that are chains, trees; all of it as audit sees it. A tree's calls at a store that is not there, is none, or is a ghost. A page that came in. A volume whose stores hang together: what each call makes of it. The laws of audit: a sound volume under way; a call. The laws of audit: a call, as it came in; what is done with it. AuditSound. Volumes on which something is wrong: a page that is none's, one that is taken away, one that has another store's number. AuditFinds. -/
import Derived.Test.YtelbioooggnbiaaGreatAuZ
import Derived.Test.YtelbioooggnbiaaGreatTrPut
import Derived.Test.YtelbioooggnbiaaGreatPgPlain
import Derived.Test.YtelbioooggnbiaaGreatProg
import Derived.Test.YtelbioooggnbiaaGreatRead
import Derived.Test.YtelbioooggnbiaaGreatFhZ
import Derived.Deep.CutBlock
import Derived.Deep.DeepCutAuto
set_option linter.unusedVariables false
set_option linter.unusedSectionVars false
set_option linter.unusedSimpArgs false
namespace Go.Proofs.YtelbioooggnbiaaGreat
open Go.RowKit

/-- The bounds as audit keeps them. -/
def spOf (a b : Option ByteArray) : Spn := ⟨a.getD ⟨#[]⟩, b.getD ⟨#[]⟩, b.isSome⟩
theorem spOf_holds {a b : Option ByteArray} {k : ByteArray} : (spOf a b).holds k = true ↔ inR kL a b k := by
  unfold Spn.holds spOf inR kL
  rw [Bool.and_eq_true, Bool.or_eq_true, Bool.not_eq_true', Bool.not_eq_true']
  refine and_congr ?_ ?_
  · cases a with
    | none =>
      constructor
      · intro _ x hx
        exact absurd hx (by simp)
      · intro _
        exact slt_empty k ⟨#[]⟩ rfl
    | some x =>
      constructor
      · intro h y hy
        injection hy with hy
        subst hy
        have h : slt k x = false := h
        show ¬ slt k x = true
        rw [h]
        decide
      · intro h
        have h2 : ¬ slt k x = true := h x rfl
        show slt k x = false
        simpa using h2
  · cases b with
    | none =>
      constructor
      · intro _ x hx
        exact absurd hx (by simp)
      · intro _
        exact .inl rfl
    | some x =>
      constructor
      · rintro (h | h) y hy
        · exact absurd h (by simp)
        · injection hy with hy
          subst hy
          exact h
      · intro h
        exact .inr (h x rfl)
theorem below_eq (p : Pg) (a b : Option ByteArray) (q : Nat) : below p (spOf a b) q = spOf ((ndOf p).lo a q) ((ndOf p).hi b q) := by
  unfold below Nd.lo Nd.hi spOf
  dsimp only [ndOf]
  by_cases h1 : q = 0
  · by_cases h2 : q + 1 < cnt p.c
    · simp [h1, h2, if_pos]; simp [h1] at h2; simp [h2]
    · simp [h1, h2]; simp [h1] at h2; simp [show ¬ 1 < cnt p.c by omega]
  · by_cases h2 : q + 1 < cnt p.c
    · simp [h1, h2]
    · simp [h1, h2]
/-- The bounds of an inner node's place leave room. -/
theorem sp_room {a b : Option ByteArray} {k : ByteArray} (h : inR kL a b k) : (spOf a b).holds (spOf a b).lo = true := by
  have h0 := spOf_holds.2 h
  unfold Spn.holds at h0 ⊢
  rw [Bool.and_eq_true, Bool.or_eq_true, Bool.not_eq_true', Bool.not_eq_true'] at h0 ⊢
  refine ⟨slt_irrefl _, ?_⟩
  rcases h0.2 with h1 | h1
  · exact .inl h1
  · refine .inr ?_
    cases h2 : slt (spOf a b).lo k with
    | true => exact slt_trans h2 h1
    | false => rw [← slt_tri h0.1 h2]; exact h1
/-- Each part's bounds leave room. -/
inductive Tb (N : Nat → Nd ByteArray Ce) : Nat → Nat → Option ByteArray → Option ByteArray → Prop
  | leaf {id : Nat} {a b : Option ByteArray} : Tb N 0 id a b
  | inner {h id : Nat} {a b : Option ByteArray} (h1 : (spOf a b).holds (spOf a b).lo = true) (hk : ∀ q, q < (N id).n → Tb N h ((N id).kid q) ((N id).lo a q) ((N id).hi b q)) : Tb N (h + 1) id a b
theorem Tr.room {N : Nat → Nd ByteArray Ce} {h id : Nat} {a b : Option ByteArray} {lf ids : List Nat} {R : List (ByteArray × Ce)} (t : Tr kL N h id a b lf ids R) (hn : h ≠ 0 → ∀ i, i ∈ lf → 0 < (N i).n) : Tb N h id a b := by
  induction t with
  | leaf => exact .leaf
  | @inner h id a b lf ids rs h0 hn' h1 h2 hk ih =>
    have hn := hn (by omega)
    refine .inner ?_ fun q hq => ih q hq fun _ i hi => hn i (flat_mem.2 ⟨q, hq, hi⟩)
    have t0 := hk 0 hn'
    obtain ⟨e1, e2, e3⟩ := t0.leaves
    obtain ⟨i, hi⟩ := List.exists_mem_of_ne_nil _ e2
    have hp := hn i (flat_mem.2 ⟨0, hn', hi⟩)
    have hr : ((N i).key 0, (N i).cell 0) ∈ rs 0 := by
      rw [e1, List.mem_flatMap]
      exact ⟨i, hi, List.mem_map.2 ⟨0, List.mem_range.2 hp, rfl⟩⟩
    exact sp_room (inR_lo kOrd h1 hn' (t0.range kOrd _ hr))
theorem Tr.head {K C : Type} {lt : K → K → Prop} {N : Nat → Nd K C} {h id : Nat} {a b : Option K} {L I : List Nat} {R : List (K × C)} (t : Tr lt N h id a b L I R) : I = id :: I.tail := by
  cases t <;> rfl
/-- What audit asks of a page ahead of all. -/
structure PgA (pg : Nat → Pg) (N : Nat) (sn : Int) (i : Nat) : Prop where
  lt : i < N
  nd : nodeOk (pg i)
  s : (pg i).s = sn
def zs (l : List Nat) : List Int := l.map fun (i : Nat) => (i : Int)
def lvs (pg : Nat → Pg) (l : List Nat) : List (Int × Int) := l.map fun (i : Nat) => ((i : Int), (pg i).n)
theorem zs_mem {l : List Nat} {i : Nat} : (i : Int) ∈ zs l ↔ i ∈ l := by
  unfold zs
  rw [List.mem_map]
  exact ⟨fun ⟨j, h1, h2⟩ => by rw [← Int.ofNat.inj (show Int.ofNat j = Int.ofNat i from h2)]; exact h1, fun h => ⟨i, h, rfl⟩⟩
theorem reach_new {pg : Nat → Pg} {N : Nat} {sn : Int} {s : LkS} {i : Nat} (h : PgA pg N sn i) (h1 : (i : Int) ∉ s.re) (h2 : s.re.length < 1024) : reachF pg N sn s (i : Int) = some ⟨(i : Int) :: s.re, s.lv⟩ := by
  unfold reachF
  rw [if_neg (by rw [not_or]; exact ⟨h1, by omega⟩), if_pos ⟨⟨by omega, by have := h.lt; omega⟩, by rw [Int.toNat_natCast]; exact h.s⟩]
/-- A tree that hangs together, looked through. -/
theorem node_look {pg : Nat → Pg} {N : Nat} {sn : Int} {h id : Nat} {a b : Option ByteArray} {lf ids : List Nat} {R : List (ByteArray × Ce)} (t : Tr kL (NN pg) h id a b lf ids R) : Tb (NN pg) h id a b → (∀ i, i ∈ ids → PgA pg N sn i) → ids.Nodup → ∀ s : LkS, (∀ i, i ∈ ids.tail → (i : Int) ∉ s.re) → s.re.length + ids.length ≤ 1025 →
    nodeF pg N sn h id s (spOf a b) = some ⟨(zs ids.tail).reverse ++ s.re, s.lv ++ lvs pg lf⟩ := by
  induction t with
  | @leaf id a b h0 h1 h2 =>
    intro _ hp _ s _ _
    have p := hp id (by simp)
    have l0 : (pg id).l = 0 := by
      have : (pg id).l.toNat = 0 := h0
      have := p.nd.1.2.1
      omega
    rw [nodeF, if_pos ⟨p.nd, by omega⟩]
    unfold leafF
    rw [if_pos (show ∀ i, i < cnt (pg id).c → (spOf a b).holds ((pg id).c i).key = true from fun i hi => spOf_holds.2 (h1 i hi))]
    rfl
  | @inner h id a b lf ids rs h0 hn h1 h2 hk ih =>
    intro tb hp hd s hs hz
    have p := hp id (by simp)
    have l0 : (pg id).l = ((h + 1 : Nat) : Int) := by
      have : (pg id).l.toNat = h + 1 := h0
      omega
    cases tb with
    | inner r1 rk =>
      rw [nodeF, if_pos p.nd, if_pos (by omega)]
      rw [List.nodup_cons] at hd
      obtain ⟨d1, d2⟩ := flat_nodup hd.2
      have hs' : ∀ i, i ∈ flat (cnt (pg id).c) ids → (i : Int) ∉ s.re := hs
      have hz' : s.re.length + (flat (cnt (pg id).c) ids).length ≤ 1024 := by
        have : s.re.length + (id :: flat (cnt (pg id).c) ids).length ≤ 1025 := hz
        rw [List.length_cons] at this
        omega
      have main : ∀ m, m ≤ cnt (pg id).c → (List.range m).foldlM (kidF pg N sn (nodeF pg N sn h) (pg id) (spOf a b)) s = some ⟨(zs (flat m ids)).reverse ++ s.re, s.lv ++ lvs pg (flat m lf)⟩ := by
        intro m
        induction m with
        | zero => intro _; simp [flat, zs, lvs]
        | succ m im =>
          intro hm
          rw [fold_step (im (by omega))]
          unfold kidF
          have hq : m < (NN pg id).n := hm
          have tq := hk m hq
          have eh := tq.head
          have hlen : (flat (m + 1) ids).length ≤ (flat (cnt (pg id).c) ids).length := by
            obtain ⟨r, hr⟩ : ∃ r, cnt (pg id).c = (m + 1) + r := ⟨cnt (pg id).c - (m + 1), by omega⟩
            rw [hr, flat_add (m + 1) r, List.length_append]
            omega
          rw [flat_succ, List.length_append] at hlen
          have hkid : (NN pg id).kid m ∈ ids m := by rw [eh]; simp
          have notold : ∀ i, i ∈ ids m → (i : Int) ∉ (zs (flat m ids)).reverse ++ s.re := fun i hi hc => by
            rcases List.mem_append.1 hc with hc | hc
            · rw [List.mem_reverse, zs_mem] at hc
              obtain ⟨r, hr, hr2⟩ := flat_mem.1 hc
              exact d2 r m hr hm i hr2 hi
            · exact hs' i (flat_mem.2 ⟨m, hm, hi⟩) hc
          have hold : (spOf a b).holds (below (pg id) (spOf a b) m).lo = true := by
            by_cases e : m = 0
            · subst e
              exact r1
            · unfold below
              dsimp only
              rw [if_neg e]
              exact spOf_holds.2 (h1 m (by omega) hq)
          rw [if_pos hold]
          have hpk := hp _ (List.mem_cons_of_mem _ (flat_mem.2 ⟨m, hm, hkid⟩))
          have zl : (zs (flat m ids)).length = (flat m ids).length := by unfold zs; rw [List.length_map]
          have hlm : (ids m).length = (ids m).tail.length + 1 := by
            have := congrArg List.length eh
            rw [List.length_cons] at this
            exact this
          rw [reach_new (i := ((pg id).c m).child) hpk (notold _ hkid) (by rw [List.length_append, List.length_reverse, zl]; omega)]
          rw [Option.bind_some, below_eq]
          have lk : (pg ((pg id).c m).child).l = (pg id).l - 1 := by
            have h3 : (pg ((pg id).c m).child).l.toNat = h := (tq.self).2
            have := hpk.nd.1.2.1
            have h4 : 0 ≤ (pg ((pg id).c m).child).l := this
            omega
          rw [if_pos lk]
          have dm := d1 m hm
          rw [eh, List.nodup_cons] at dm
          have fin := ih m hq (rk m hq) (fun i hi => hp i (List.mem_cons_of_mem _ (flat_mem.2 ⟨m, hm, hi⟩))) (d1 m hm) ⟨(((pg id).c m).child : Int) :: ((zs (flat m ids)).reverse ++ s.re), s.lv ++ lvs pg (flat m lf)⟩ (fun i hi hc => by
            rcases List.mem_cons.1 hc with hc | hc
            · have : i = ((pg id).c m).child := by exact Int.ofNat.inj hc
              subst this
              exact dm.1 hi
            · exact notold i (by rw [eh]; exact List.mem_cons_of_mem _ hi) hc) (by
            rw [List.length_cons, List.length_append, List.length_reverse, zl]
            omega)
          refine fin.trans ?_
          congr 1
          congr 1
          · rw [flat_succ]
            conv => rhs; rw [eh]
            unfold zs
            simp [List.map_append, List.append_assoc]
            rfl
          · rw [flat_succ]
            unfold lvs
            rw [List.map_append, List.append_assoc]
      exact main _ (Nat.le_refl _)
theorem tree_look {pg : Nat → Pg} {N : Nat} {sn : Int} {h rt : Nat} {lf ids : List Nat} {R : List (ByteArray × Ce)} (t : Tr kL (NN pg) h rt none none lf ids R) (tb : Tb (NN pg) h rt none none) (hp : ∀ i, i ∈ ids → PgA pg N sn i) (hd : ids.Nodup) (s : LkS) (hs : ∀ i, i ∈ ids → (i : Int) ∉ s.re) (hz : s.re.length + ids.length ≤ 1024) :
    treeF pg N sn s rt = if chained (s.lv ++ lvs pg lf) = true then some ⟨(zs ids).reverse ++ s.re, s.lv ++ lvs pg lf⟩ else none := by
  have eh := t.head
  have hr : rt ∈ ids := by rw [eh]; simp
  have hl : ids.length = ids.tail.length + 1 := by
    have := congrArg List.length eh
    rw [List.length_cons] at this
    exact this
  unfold treeF
  rw [reach_new (hp rt hr) (hs rt hr) (by omega), Option.bind_some]
  have lr : (pg rt).l.toNat = h := t.self.2
  have hd' := hd
  rw [eh, List.nodup_cons] at hd'
  have fin := node_look (N := N) (sn := sn) t tb hp hd ⟨(rt : Int) :: s.re, s.lv⟩ (fun i hi hc => by
    rcases List.mem_cons.1 hc with hc | hc
    · have : i = rt := Int.ofNat.inj hc
      subst this
      exact hd'.1 hi
    · exact hs i (by rw [eh]; exact List.mem_cons_of_mem _ hi) hc) (by rw [List.length_cons]; omega)
  rw [lr, show sp0 = spOf none none from rfl, fin, Option.bind_some]
  have e : (zs ids.tail).reverse ++ (rt : Int) :: s.re = (zs ids).reverse ++ s.re := by
    conv => rhs; rw [eh]
    unfold zs
    simp [List.append_assoc]
  rw [e]
theorem lvs_chained (pg : Nat → Pg) : ∀ (l : List Nat), Chn (fun i => (pg i).n.toNat) l → (∀ i, i ∈ l → 0 ≤ (pg i).n) → chained (lvs pg l) = true
  | [], _, _ => rfl
  | [x], h, h0 => by
    have h1 : (pg x).n.toNat = 0 := h.next
    have h2 := h0 x (by simp)
    show ((pg x).n == 0) = true
    rw [beq_iff_eq]
    omega
  | x :: y :: l, h, h0 => by
    have h1 : (pg x).n.toNat = y := h.next
    have h2 := h0 x (by simp)
    show ((pg x).n == (y : Int) && chained (lvs pg (y :: l))) = true
    rw [lvs_chained pg (y :: l) h.tail fun i hi => h0 i (List.mem_cons_of_mem _ hi), Bool.and_true, beq_iff_eq]
    omega
theorem lvs_own {pg : Nat → Pg} {x : Nat} (hx : 0 < x) (hn : (pg x).n = (x : Int)) : ∀ (l : List Nat), l.Nodup → x ∈ l → chained (lvs pg l) = false
  | [], _, h => by cases h
  | [y], _, h => by
    obtain rfl : x = y := by simpa using h
    show ((pg x).n == 0) = false
    rw [hn, beq_eq_false_iff_ne]
    omega
  | y :: z :: l, hd, h => by
    rw [List.nodup_cons] at hd
    show ((pg y).n == (z : Int) && chained (lvs pg (z :: l))) = false
    rcases List.mem_cons.1 h with e | e
    · subst e
      have : ((pg x).n == (z : Int)) = false := by
        rw [hn, beq_eq_false_iff_ne]
        intro e
        have := Int.ofNat.inj e
        exact hd.1 (by rw [this]; simp)
      rw [this, Bool.false_and]
    · rw [lvs_own hx hn (z :: l) hd.2 e, Bool.and_false]
theorem fold_none {β : Type} {f : β → Nat → Option β} {q n : Nat} (hq : q < n) (h : ∀ t, f t q = none) (s : β) : (List.range n).foldlM f s = none := by
  cases e : (List.range q).foldlM f s with
  | some t => exact fold_stop e (h t) hq
  | none =>
    obtain ⟨m, rfl⟩ : ∃ m, n = q + m := ⟨n - q, by omega⟩
    rw [List.range_add]
    exact foldlM_none e
/-- One leaf spoilt: however it is come to, the look fails. -/
theorem node_bad {pg pg' : Nat → Pg} {N : Nat} {sn : Int} {x : Nat} (hs : ∀ i, i ≠ x → pg' i = pg i) (hb : (pg' x).l ≠ 0 ∨ ¬ nodeOk (pg' x)) {h id : Nat} {a b : Option ByteArray} {lf ids : List Nat} {R : List (ByteArray × Ce)} (t : Tr kL (NN pg) h id a b lf ids R) :
    x ∈ lf → (pg x).l = 0 → h ≠ 0 → ∀ (s : LkS) (sp : Spn), nodeF pg' N sn h id s sp = none := by
  induction t with
  | leaf => intro _ _ h; exact absurd rfl h
  | @inner h id a b lf ids rs h0 hn h1 h2 hk ih =>
    intro hx l0 _ s sp
    have hne : id ≠ x := fun e => by
      have h3 : (pg id).l.toNat = h + 1 := h0
      rw [e, l0] at h3
      simp at h3
    have lid : (pg id).l = ((h + 1 : Nat) : Int) := by
      have : (pg id).l.toNat = h + 1 := h0
      omega
    rw [nodeF, hs id hne]
    by_cases hok : nodeOk (pg id)
    · rw [if_pos hok, if_pos (by omega)]
      obtain ⟨q, hq, hxq⟩ := flat_mem.1 hx
      refine fold_none (q := q) hq (fun u => ?_) s
      unfold kidF
      by_cases g1 : sp.holds (below (pg id) sp q).lo = true
      · rw [if_pos g1]
        cases g2 : reachF pg' N sn u (((pg id).c q).child : Int) with
        | none => rfl
        | some u' =>
          rw [Option.bind_some]
          by_cases g3 : (pg' ((pg id).c q).child).l = (pg id).l - 1
          · rw [if_pos g3]
            by_cases e : h = 0
            · subst e
              obtain ⟨e1, -⟩ := (hk q hq).lf
              rw [e1] at hxq
              have h5 : x = (NN pg id).kid q := by simpa using hxq
              have hxk : x = ((pg id).c q).child := h5
              rw [← hxk] at g3 ⊢
              rw [nodeF, if_neg]
              rintro ⟨n1, n2⟩
              rcases hb with hb | hb
              · omega
              · exact hb n1
            · exact ih q hq hxq l0 e u' _
          · rw [if_neg g3]
      · rw [if_neg g1]
    · rw [if_neg hok]
theorem tree_bad {pg pg' : Nat → Pg} {N : Nat} {sn : Int} {x : Nat} (hs : ∀ i, i ≠ x → pg' i = pg i) (hb : (pg' x).l ≠ 0 ∨ ¬ nodeOk (pg' x)) {h rt : Nat} {lf ids : List Nat} {R : List (ByteArray × Ce)} (t : Tr kL (NN pg) h rt none none lf ids R) (hx : x ∈ lf) (l0 : (pg x).l = 0) (h0 : h ≠ 0) (s : LkS) : treeF pg' N sn s rt = none := by
  have hne : rt ≠ x := fun e => by
    have h3 : (pg rt).l.toNat = h := t.self.2
    rw [e, l0] at h3
    simp at h3
    omega
  unfold treeF
  cases g2 : reachF pg' N sn s (rt : Int) with
  | none => rfl
  | some u =>
    have lr : (pg' rt).l.toNat = h := by rw [hs rt hne]; exact t.self.2
    rw [Option.bind_some, lr, node_bad (N := N) (sn := sn) hs hb t hx l0 h0]
    rfl
end Go.Proofs.YtelbioooggnbiaaGreat
namespace Go.Proofs.YtelbioooggnbiaaGreat
open Go.RowKit

/-- Inner nodes with two cells at least leave room: a leaf may be empty. -/
theorem Tr.room2 {N : Nat → Nd ByteArray Ce} {h id : Nat} {a b : Option ByteArray} {lf ids : List Nat} {R : List (ByteArray × Ce)} (t : Tr kL N h id a b lf ids R) (hn : ∀ i, i ∈ ids → (N i).lv ≠ 0 → 2 ≤ (N i).n) : Tb N h id a b := by
  induction t with
  | leaf => exact .leaf
  | @inner h id a b lf ids rs h0 hn' h1 h2 hk ih =>
    have h3 := hn id (by simp) (by omega)
    exact .inner (sp_room (h1 1 (by omega) (by omega))) fun q hq => ih q hq fun i hi => hn i (List.mem_cons_of_mem _ (flat_mem.2 ⟨q, hq, hi⟩))
/-- A heap's pages. -/
structure PgH (pg : Nat → Pg) (n : Nat) (ow : Nat → Option Int) (sn : Int) (i : Nat) : Prop where
  two : 2 ≤ i
  lt : i < n
  hp : heapPage (pg i)
  ok : (pg i).ok
  ow : ow i = some sn
  s : (pg i).s = sn
theorem chain_look {pg : Nat → Pg} {N : Nat} {sn : Int} : ∀ (ch : List Nat) (f : Nat) (s : LkS), Chn (fun i => (pg i).n.toNat) ch → (∀ i, i ∈ ch → 2 ≤ i ∧ i < N ∧ heapPage (pg i) ∧ 0 ≤ (pg i).n ∧ (pg i).s = sn) → ch.Nodup → (∀ i, i ∈ ch → (i : Int) ∉ s.re) → s.re.length + ch.length ≤ 1024 → ch.length ≤ f →
    ∀ c l, ch = c :: l → chainF pg N sn f s (c : Int) = some ⟨(zs ch).reverse ++ s.re, s.lv⟩
  | [], _, _, _, _, _, _, _, _, _, _, e => by cases e
  | x :: ch, 0, _, _, _, _, _, _, hf, _, _, _ => by simp at hf
  | x :: ch, f + 1, s, hc, hp, hd, hs, hz, hf, c, l, e => by
    injection e with e1 e2
    subst e1
    have px := hp x (by simp)
    rw [List.length_cons] at hz hf
    rw [List.nodup_cons] at hd
    have hr : reachF pg N sn s (x : Int) = some ⟨(x : Int) :: s.re, s.lv⟩ := by
      unfold reachF
      rw [if_neg (by rw [not_or]; exact ⟨hs x (by simp), by omega⟩), if_pos ⟨⟨by omega, by omega⟩, by rw [Int.toNat_natCast]; exact px.2.2.2.2⟩]
    rw [chainF, hr, Option.bind_some, Int.toNat_natCast, if_pos px.2.2.1]
    cases ch with
    | nil =>
      have h1 : (pg x).n.toNat = 0 := hc.next
      rw [if_pos (by omega)]
      rfl
    | cons y ch =>
      have h1 : (pg x).n.toNat = y := hc.next
      have py := hp y (by simp)
      rw [if_neg (by omega)]
      have e : (pg x).n = (y : Int) := by omega
      rw [e]
      have := chain_look (y :: ch) f ⟨(x : Int) :: s.re, s.lv⟩ hc.tail (fun i hi => hp i (List.mem_cons_of_mem _ hi)) hd.2 (fun i hi hm => by
        rcases List.mem_cons.1 hm with hm | hm
        · have : i = x := Int.ofNat.inj hm
          subst this
          exact hd.1 hi
        · exact hs i (List.mem_cons_of_mem _ hi) hm) (by rw [List.length_cons]; omega) (by omega) y ch rfl
      rw [this]
      unfold zs
      simp [List.append_assoc]
/-- A volume whose stores hang together. -/
structure Snd (pg : Nat → Pg) (n : Nat) (st : Nat → Int) (kd rt : Nat → Nat) (ow : Nat → Option Int) (P : Nat → List Nat) : Prop where
  vol : Vol pg n st kd rt ow
  heap : ∀ j, j < 6 → st j ≠ 0 → kd j = 1 → (P j).Nodup ∧ (∃ l, P j = rt j :: l) ∧ Chn (fun i => (pg i).n.toNat) (P j) ∧ ∀ i, i ∈ P j → PgH pg n ow ((j : Int) + 1) i
  tree : ∀ j, j < 6 → st j ≠ 0 → kd j ≠ 1 → ∃ H lf R, Ix pg n ow ((j : Int) + 1) (rt j) H lf (P j) R False
  only : ∀ i, i < n → (ow i).isSome = true → i < 2 ∨ ∃ j, j < 6 ∧ st j ≠ 0 ∧ i ∈ P j
def reS (st : Nat → Int) (P : Nat → List Nat) : Nat → List Int
  | 0 => [1, 0]
  | j + 1 => if st j = 0 then reS st P j else (zs (P j)).reverse ++ reS st P j
theorem zs_ex {l : List Nat} {x : Int} (h : x ∈ zs l) : ∃ i : Nat, x = i ∧ i ∈ l := by
  unfold zs at h
  obtain ⟨i, hi, rfl⟩ := List.mem_map.1 h
  exact ⟨i, rfl, hi⟩
theorem reS_mem {st : Nat → Int} {P : Nat → List Nat} : ∀ {j : Nat} {x : Int}, x ∈ reS st P j ↔ x = 0 ∨ x = 1 ∨ ∃ i, i < j ∧ st i ≠ 0 ∧ x ∈ zs (P i)
  | 0, x => by
    unfold reS
    simp
    omega
  | j + 1, x => by
    rw [reS]
    by_cases h : st j = 0
    · rw [if_pos h, reS_mem]
      constructor
      · rintro (h1 | h1 | ⟨i, h1, h2, h3⟩)
        · exact .inl h1
        · exact .inr (.inl h1)
        · exact .inr (.inr ⟨i, by omega, h2, h3⟩)
      · rintro (h1 | h1 | ⟨i, h1, h2, h3⟩)
        · exact .inl h1
        · exact .inr (.inl h1)
        · refine .inr (.inr ⟨i, ?_, h2, h3⟩)
          rcases Nat.lt_succ_iff_lt_or_eq.1 h1 with h4 | h4
          · exact h4
          · subst h4; exact absurd h h2
    · rw [if_neg h, List.mem_append, List.mem_reverse, reS_mem]
      constructor
      · rintro (h0 | h1 | h1 | ⟨i, h1, h2, h3⟩)
        · exact .inr (.inr ⟨j, by omega, h, h0⟩)
        · exact .inl h1
        · exact .inr (.inl h1)
        · exact .inr (.inr ⟨i, by omega, h2, h3⟩)
      · rintro (h1 | h1 | ⟨i, h1, h2, h3⟩)
        · exact .inr (.inl h1)
        · exact .inr (.inr (.inl h1))
        · rcases Nat.lt_succ_iff_lt_or_eq.1 h1 with h4 | h4
          · exact .inr (.inr (.inr ⟨i, h4, h2, h3⟩))
          · subst h4; exact .inl h3
section
variable {pg : Nat → Pg} {N n : Nat} {st : Nat → Int} {kd rt : Nat → Nat} {ow : Nat → Option Int} {P : Nat → List Nat}
/-- Each page of a store is its own, and no other's. -/
theorem Snd.pgs (h : Snd pg n st kd rt ow P) {j : Nat} (hj : j < 6) (hs : st j ≠ 0) {i : Nat} (hi : i ∈ P j) : 2 ≤ i ∧ i < n ∧ ow i = some ((j : Int) + 1) := by
  by_cases hk : kd j = 1
  · have := (h.heap j hj hs hk).2.2.2 i hi
    exact ⟨this.two, this.lt, this.ow⟩
  · obtain ⟨H, lf, R, ix⟩ := h.tree j hj hs hk
    have := ix.pgs i hi
    exact ⟨this.two, this.lt, this.ow⟩
theorem Snd.pnd (h : Snd pg n st kd rt ow P) {j : Nat} (hj : j < 6) (hs : st j ≠ 0) : (P j).Nodup := by
  by_cases hk : kd j = 1
  · exact (h.heap j hj hs hk).1
  · obtain ⟨H, lf, R, ix⟩ := h.tree j hj hs hk
    exact ix.nd
theorem Snd.new (h : Snd pg n st kd rt ow P) {j : Nat} (hj : j < 6) (hs : st j ≠ 0) {i : Nat} (hi : i ∈ P j) : (i : Int) ∉ reS st P j := fun hm => by
  have a := h.pgs hj hs hi
  rcases reS_mem.1 hm with h1 | h1 | ⟨q, h1, h2, h3⟩
  · omega
  · omega
  · obtain ⟨i', e, h4⟩ := zs_ex h3
    obtain rfl : i = i' := Int.ofNat.inj e
    have b := (h.pgs (by omega) h2 h4).2.2
    rw [a.2.2] at b
    have := Option.some.inj b
    omega
theorem Snd.nodup (h : Snd pg n st kd rt ow P) : ∀ j, j ≤ 6 → (reS st P j).Nodup
  | 0, _ => by unfold reS; decide
  | j + 1, hj => by
    rw [reS]
    by_cases hs : st j = 0
    · rw [if_pos hs]; exact h.nodup j (by omega)
    · rw [if_neg hs, List.nodup_append]
      refine ⟨?_, h.nodup j (by omega), fun x hx y hy e => ?_⟩
      · unfold zs
        rw [← List.map_reverse]
        refine List.Pairwise.map _ (fun (a b : Nat) (hab : b ≠ a) (e : (a : Int) = (b : Int)) => hab (Int.ofNat.inj e).symm) (List.pairwise_reverse.2 ?_)
        exact (h.pnd (by omega) hs).imp fun h => h
      · subst e
        obtain ⟨i, rfl, hi⟩ := zs_ex (List.mem_reverse.1 hx)
        exact h.new (by omega) hs hi hy
theorem Snd.own (h : Snd pg n st kd rt ow P) {j : Nat} (hj : j ≤ 6) {x : Int} (hx : x ∈ reS st P j) : x ∈ owL ow n := by
  have hlo := h.vol.lo
  rw [owL_mem]
  rcases reS_mem.1 hx with h1 | h1 | ⟨q, h1, h2, h3⟩
  · exact ⟨0, by omega, by rw [h.vol.z.1]; rfl, by omega⟩
  · exact ⟨1, by omega, by rw [h.vol.z.2]; rfl, by omega⟩
  · obtain ⟨i, rfl, h4⟩ := zs_ex h3
    have := h.pgs (by omega) h2 h4
    exact ⟨i, this.2.1, by rw [this.2.2]; rfl, rfl⟩
theorem Snd.len (h : Snd pg n st kd rt ow P) {j : Nat} (hj : j ≤ 6) : (reS st P j).length ≤ 1024 := by
  have h1 := nodup_len_le _ _ (h.nodup j hj) fun x hx => h.own hj hx
  have h2 : (owL ow n).length ≤ n := by
    unfold owL
    rw [List.length_map]
    have a := List.length_filter_le (fun i => (ow i).isSome) (List.range n)
    rw [List.length_range] at a
    exact a
  have := h.vol.lo
  omega
theorem Snd.fold (h : Snd pg n st kd rt ow P) (hn : n ≤ N) : ∀ j, j ≤ 6 → ∃ lv, (List.range j).foldlM (storeF pg N st kd rt) ⟨[1, 0], []⟩ = some ⟨reS st P j, lv⟩
  | 0, _ => ⟨[], rfl⟩
  | j + 1, hj => by
    obtain ⟨lv, hf⟩ := h.fold hn j (by omega)
    have hl := h.len (j := j + 1) hj
    rw [fold_step hf]
    unfold storeF
    rw [reS] at hl ⊢
    by_cases hs : st j = 0
    · rw [if_pos hs, if_pos hs]; exact ⟨lv, rfl⟩
    · rw [if_neg hs] at hl
      rw [if_neg hs, if_neg hs]
      rw [List.length_append, List.length_reverse, show (zs (P j)).length = (P j).length from by unfold zs; rw [List.length_map]] at hl
      have hnew := fun i hi => h.new (j := j) (by omega) hs (i := i) hi
      by_cases hk : kd j = 1
      · rw [if_pos hk]
        obtain ⟨h1, ⟨l, h2⟩, h3, h4⟩ := h.heap j (by omega) hs hk
        refine ⟨[], ?_⟩
        exact chain_look (P j) 1025 ⟨reS st P j, []⟩ h3 (fun i hi => by
          have p := h4 i hi
          have := p.ok.1
          unfold Pg.head at this
          exact ⟨p.two, by have := p.lt; omega, p.hp, by omega, p.s⟩) h1 hnew (by show (reS st P j).length + _ ≤ 1024; omega) (by omega) _ _ h2
      · rw [if_neg hk]
        obtain ⟨H, lf, R, ix⟩ := h.tree j (by omega) hs hk
        refine ⟨[] ++ lvs pg lf, ?_⟩
        have look := tree_look (N := N) (sn := (j : Int) + 1) ix.tr (ix.tr.room2 fun i hi hl => (ix.pgs i hi).fl fun e => hl (by show (pg i).l.toNat = 0; rw [e]; rfl)) (fun i hi => ⟨by have := (ix.pgs i hi).lt; omega, (ix.pgs i hi).nd, (ix.pgs i hi).s⟩) ix.nd ⟨reS st P j, []⟩ hnew (by show (reS st P j).length + _ ≤ 1024; omega)
        rw [if_pos (by
          show chained ([] ++ lvs pg lf) = true
          rw [List.nil_append]
          exact lvs_chained pg lf ix.ch fun i hi => by have := (ix.pgs i (ix.lf_mem hi).1).ok.1; unfold Pg.head at this; omega)] at look
        exact look
theorem Snd.fine (h : Snd pg n st kd rt ow P) (hn : n ≤ N) : Fine pg N n st kd rt ow := by
  obtain ⟨lv, hf⟩ := h.fold hn 6 (Nat.le_refl _)
  have sub : ∀ x, x ∈ owL ow n → x ∈ reS st P 6 := fun x hx => by
    obtain ⟨i, h1, h2, rfl⟩ := owL_mem.1 hx
    rw [reS_mem]
    rcases h.only i h1 h2 with h3 | ⟨j, h3, h4, h5⟩
    · rcases (show i = 0 ∨ i = 1 by omega) with e | e
      · subst e; exact .inl rfl
      · subst e; exact .inr (.inl rfl)
    · exact .inr (.inr ⟨j, h3, h4, zs_mem.2 h5⟩)
  exact ⟨_, hf, Nat.le_antisymm (nodup_len_le _ _ owL_nodup sub) (nodup_len_le _ _ (h.nodup 6 (Nat.le_refl _)) fun x hx => h.own (Nat.le_refl _) hx), sub⟩
end
end Go.Proofs.YtelbioooggnbiaaGreat
namespace Go.Proofs.YtelbioooggnbiaaGreat
open Go.RowKit Go.Maps

/-- Is a store a live tree? -/
def LiveT (st : Nat → Int) (kd : Nat → Nat) (sn : Nat) : Prop := (kd (sn - 1) = 2 ∨ kd (sn - 1) = 3) ∧ st (sn - 1) = 1
set_option maxRecDepth 100000 in
set_option maxHeartbeats 4000000 in
theorem root_err {w : World} {B g b gs r N M n : Nat} {und pg : Nat → Pg} {st : Nat → Int} {kd rt : Nat → Nat} {ow : Nat → Option Int} (hs : SV w B g b gs r N M und pg) (hv : Vol pg n st kd rt ow) (sn : Nat) (h1 : 1 ≤ sn) (hbad : ¬ LiveT st kd sn) :
    Calls Tryz.prog 79 #[.pointer (some ⟨g, 0, none⟩), .int .i64 sn, .bool false] w fun e w' => ∃ er : Int, er ≠ 0 ∧ e = .returned (.tuple #[.int .i64 0, .int .i64 er]) ∧ Below w.heap.size w w' := by
  have CF := find_vol hs hv sn
  have e1 : ((sn : Int) - 1).toNat = sn - 1 := by omega
  rw [e1] at CF
  unfold LiveT at hbad
  have CF := Lib.hid CF
  have BAD := Lib.hid hbad
  generalize kd (sn - 1) = k at *
  generalize rt (sn - 1) = rr at *
  generalize st (sn - 1) = ss at *
  clear hs hv hbad e1
  go_enter Tryz.func79, Tryz.ntmps79
  go_wp2_with fail
  refine CF.out.mono ?_
  rintro e w1 (⟨hx, rfl, hb⟩ | ⟨-, rfl, hb⟩)
  · have BB := Lib.hid hb
    clear hb CF BAD hx
    go_wp2
    refine bodyPost_ret (v := .tuple #[.int .i64 0, .int .i64 190]) (by simp [results, Tryz.results79, go_sem]) rfl ?_
    exact ⟨_, by decide, rfl, BB.out⟩
  · have BB := Lib.hid hb
    clear hb CF
    by_cases h2 : k = 2
    · subst h2
      have hk2 : (((2 : Nat) : Int) != 2) = false := rfl
      have hs1 : (ss != 1) = true := by
        have : ¬ ss = 1 := fun h => BAD.out ⟨.inl rfl, h⟩
        simp [this]
      clear BAD
      go_wp2
      refine bodyPost_ret (v := .tuple #[.int .i64 0, .int .i64 190]) (by simp [results, Tryz.results79, go_sem]) rfl ?_
      exact ⟨_, by decide, rfl, BB.out⟩
    by_cases h3 : k = 3
    · subst h3
      have hk2 : (((3 : Nat) : Int) != 2) = true := rfl
      have hk3 : (((3 : Nat) : Int) != 3) = false := rfl
      have hs1 : (ss != 1) = true := by
        have : ¬ ss = 1 := fun h => BAD.out ⟨.inr rfl, h⟩
        simp [this]
      clear BAD h2
      go_wp2
      refine bodyPost_ret (v := .tuple #[.int .i64 0, .int .i64 190]) (by simp [results, Tryz.results79, go_sem]) rfl ?_
      exact ⟨_, by decide, rfl, BB.out⟩
    have hk2 : ((k : Int) != 2) = true := by simp; omega
    have hk3 : ((k : Int) != 3) = true := by simp; omega
    clear BAD h2 h3
    go_wp2
    refine bodyPost_ret (v := .tuple #[.int .i64 0, .int .i64 190]) (by simp [results, Tryz.results79, go_sem]) rfl ?_
    exact ⟨_, by decide, rfl, BB.out⟩
set_option maxRecDepth 100000 in
set_option maxHeartbeats 4000000 in
theorem tfind_err {w : World} {B g b gs r N M n : Nat} {und pg : Nat → Pg} {st : Nat → Int} {kd rt : Nat → Nat} {ow : Nat → Option Int} (hs : SV w B g b gs r N M und pg) (hv : Vol pg n st kd rt ow) (sn : Nat) (h1 : 1 ≤ sn) (hbad : ¬ LiveT st kd sn) (k : ByteArray) :
    Calls Tryz.prog 53 #[.pointer (some ⟨g, 0, none⟩), .int .i64 sn, .string k, .bool false] w fun e w' => ∃ er : Int, er ≠ 0 ∧ e = .returned (.tuple #[.slice none 0 0, .int .i64 0, .bool false, .int .i64 er]) ∧ Below w.heap.size w w' := by
  have CR := Lib.hid (root_err hs hv sn h1 hbad)
  clear hs hv hbad
  go_enter Tryz.func53, Tryz.ntmps53
  go_wp2_with fail
  refine CR.out.mono ?_
  rintro e w1 ⟨er, hne, rfl, hb⟩
  have h1 : (er != 0) = true := by simp [hne]
  have NE := Lib.hid hne
  have BB := Lib.hid hb
  clear hne hb CR
  go_wp2
  refine bodyPost_ret (v := .tuple #[.slice none 0 0, .int .i64 0, .bool false, .int .i64 er]) (by simp [results, Tryz.results53, go_sem]) rfl ?_
  exact ⟨er, NE.out, rfl, BB.out⟩
set_option maxRecDepth 100000 in
set_option maxHeartbeats 8000000 in
theorem live_err {w : World} {B g b gs r N M n : Nat} {und pg : Nat → Pg} {st : Nat → Int} {kd rt : Nat → Nat} {ow : Nat → Option Int} (hs : SV w B g b gs r N M und pg) (hv : Vol pg n st kd rt ow) (sn : Nat) (h1 : 1 ≤ sn) (hbad : ¬ LiveT st kd sn) (k : ByteArray) :
    Calls Tryz.prog 59 #[.pointer (some ⟨g, 0, none⟩), .int .i64 sn, .string k] w fun e w' => ∃ er : Int, er ≠ 0 ∧ e = .returned (.tuple #[.agg Im.zero.cs, .int .i64 0, .int .i64 er]) ∧ Below w.heap.size w w' := by
  have KR := Lib.hid (Bk.new w 122 Im.zero.cs)
  have B1 := Lib.hid ((Below.refl w.heap.size w).alloc (Nat.le_refl _) (.cells Im.zero.cs 122))
  have CF := Lib.hid (tfind_err (hs.alloc (.cells Im.zero.cs 122)) hv sn h1 hbad k)
  clear hs hv hbad
  go_enter Tryz.func59, Tryz.ntmps59
  go_upto_region 1 with fail
  change Code.wp _ _ _ _ (w.alloc (.cells Im.zero.cs 122))
  obtain ⟨G, hG⟩ : ∃ G, G = w.heap.size := ⟨_, rfl⟩
  have GE := Lib.hid (show w.heap.size ≤ G by omega)
  rw [← hG] at KR ⊢
  obtain ⟨w1, hw1⟩ : ∃ w1, w1 = w.alloc (.cells Im.zero.cs 122) := ⟨_, rfl⟩
  rw [← hw1] at KR B1 CF ⊢
  clear hw1 hG
  go_wp2_with fail
  refine CF.out.mono ?_
  rintro e w2 ⟨er, hne, rfl, hb⟩
  have e1 : (er != 0) = true := by simp [hne]
  have NE := Lib.hid hne
  have KR2 := Lib.hid (KR.out.kept hb)
  have B2 := Lib.hid (below_then B1.out hb B1.out.size)
  clear hne hb CF KR B1
  go_wp2_with (first | (refine build_st0 rfl rfl ?_) | (refine store_st rfl _ _ rfl G Im.zero Im.zero rfl rfl KR2.out ?_))
  refine bodyPost_ret (st_ctt rfl _ _ G Im.zero (st_bk KR2.out) rfl) rfl ?_
  exact ⟨er, NE.out, rfl, below_setRow B2.out GE.out _⟩
set_option maxRecDepth 100000 in
set_option maxHeartbeats 8000000 in
theorem tput_err {w : World} {B g b gs r N M n : Nat} {und pg : Nat → Pg} {st : Nat → Int} {kd rt : Nat → Nat} {ow : Nat → Option Int} (hs : SV w B g b gs r N M und pg) (hv0 : Vol pg n st kd rt ow) (sn : Nat) (h1 : 1 ≤ sn) (hbad : ¬ LiveT st kd sn) (k val : ByteArray) (kv : Value) :
    Calls Tryz.prog 26 #[.pointer (some ⟨g, 0, none⟩), .int .i64 sn, .string k, .string val, kv] w fun e w' => ∃ er : Int, er ≠ 0 ∧ e = .returned (.tuple #[.agg ud0.cs, .int .i64 er]) ∧ Below w.heap.size w w' := by
  have KR := Lib.hid (Bk.new w 72 ud0.cs)
  have B1 := Lib.hid ((Below.refl w.heap.size w).alloc (Nat.le_refl _) (.cells ud0.cs 72))
  have CF := Lib.hid (tfind_err (hs.alloc (.cells ud0.cs 72)) hv0 sn h1 hbad k)
  have CI := Lib.hid (fun w' => iskey_any k w')
  clear hs hv0 hbad
  go_enter Tryz.func26, Tryz.ntmps26
  go_upto_region 1 with fail
  change Code.wp _ _ _ _ (w.alloc (.cells ud0.cs 72))
  obtain ⟨U, hU⟩ : ∃ U, U = w.heap.size := ⟨_, rfl⟩
  have UE := Lib.hid (show w.heap.size ≤ U from by omega)
  rw [← hU] at KR ⊢
  obtain ⟨w1, hw1⟩ : ∃ w1, w1 = w.alloc (.cells ud0.cs 72) := ⟨_, rfl⟩
  rw [← hw1] at KR B1 CF ⊢
  clear hw1 hU
  go_wp2_with fail
  refine (CI.out _).mono ?_
  rintro e w2 ⟨rfl, rfl⟩
  by_cases hk : keyOk k
  · rw [decide_eq_true hk]
    clear hk CI
    by_cases hv : val.size ≤ 20
    · have v1 : ¬ (20 : Int) < (val.size : Int) := by omega
      have v2 : decide (20 < val.size) = false := decide_eq_false (by omega)
      clear hv
      as_aux_lemma =>
        go_wp2_with fail
        refine CF.out.mono ?_
        rintro e w3 ⟨er, hne, rfl, hb⟩
        have e1 : (er != 0) = true := by simp [hne]
        have NE := Lib.hid hne
        have KR3 := Lib.hid (KR.out.kept hb)
        have B3 := Lib.hid (below_then B1.out hb B1.out.size)
        clear hb KR B1 CF v1 v2 hne
        go_wp2_with (first | (refine build_ud0 rfl rfl ?_) | (refine store_ud rfl _ _ rfl U ud0 ud0 rfl rfl KR3.out ?_))
        refine bodyPost_ret (ud_ct rfl _ _ U ud0 (ud_bk KR3.out) rfl) rfl ?_
        exact ⟨er, NE.out, rfl, below_setRow B3.out UE.out _⟩
    · have v1 : (20 : Int) < (val.size : Int) := by omega
      have v2 : decide (20 < val.size) = true := decide_eq_true (by omega)
      clear hv CF
      as_aux_lemma =>
        go_wp2_with (first | (refine build_ud0 rfl rfl ?_) | (refine store_ud rfl _ _ rfl U ud0 ud0 rfl rfl KR.out ?_))
        refine bodyPost_ret (ud_ct rfl _ _ U ud0 (ud_bk KR.out) rfl) rfl ?_
        exact ⟨2, by decide, rfl, below_setRow B1.out UE.out _⟩
  · rw [decide_eq_false hk]
    clear hk CF
    as_aux_lemma =>
      go_wp2_with (first | (refine build_ud0 rfl rfl ?_) | (refine store_ud rfl _ _ rfl U ud0 ud0 rfl rfl KR.out ?_))
      refine bodyPost_ret (ud_ct rfl _ _ U ud0 (ud_bk KR.out) rfl) rfl ?_
      exact ⟨1, by decide, rfl, below_setRow B1.out UE.out _⟩
set_option maxRecDepth 100000 in
set_option maxHeartbeats 8000000 in
theorem tcut_err {w : World} {B g b gs r N M n : Nat} {und pg : Nat → Pg} {st : Nat → Int} {kd rt : Nat → Nat} {ow : Nat → Option Int} (hs : SV w B g b gs r N M und pg) (hv0 : Vol pg n st kd rt ow) (sn : Nat) (h1 : 1 ≤ sn) (hbad : ¬ LiveT st kd sn) (k : ByteArray) :
    Calls Tryz.prog 27 #[.pointer (some ⟨g, 0, none⟩), .int .i64 sn, .string k] w fun e w' => ∃ er : Int, er ≠ 0 ∧ e = .returned (.tuple #[.agg ud0.cs, .int .i64 er]) ∧ Below w.heap.size w w' := by
  have KR := Lib.hid (Bk.new w 72 ud0.cs)
  have B1 := Lib.hid ((Below.refl w.heap.size w).alloc (Nat.le_refl _) (.cells ud0.cs 72))
  have CF := Lib.hid (live_err (hs.alloc (.cells ud0.cs 72)) hv0 sn h1 hbad k)
  have CI := Lib.hid (fun w' => iskey_any k w')
  clear hs hv0 hbad
  go_enter Tryz.func27, Tryz.ntmps27
  go_upto_region 1 with fail
  change Code.wp _ _ _ _ (w.alloc (.cells ud0.cs 72))
  obtain ⟨U, hU⟩ : ∃ U, U = w.heap.size := ⟨_, rfl⟩
  have UE := Lib.hid (show w.heap.size ≤ U from by omega)
  rw [← hU] at KR ⊢
  obtain ⟨w1, hw1⟩ : ∃ w1, w1 = w.alloc (.cells ud0.cs 72) := ⟨_, rfl⟩
  rw [← hw1] at KR B1 CF ⊢
  clear hw1 hU
  go_wp2_with fail
  refine (CI.out _).mono ?_
  rintro e w2 ⟨rfl, rfl⟩
  by_cases hk : keyOk k
  · rw [decide_eq_true hk]
    clear hk CI
    as_aux_lemma =>
      go_wp2_with fail
      refine CF.out.mono ?_
      rintro e w3 ⟨er, hne, rfl, hb⟩
      have e1 : (er != 0) = true := by simp [hne]
      have NE := Lib.hid hne
      have KR3 := Lib.hid ((KR.out.kept hb).alloc (.cells Im.zero.cs 122))
      have B3 := Lib.hid ((below_then B1.out hb B1.out.size).alloc (Nat.le_trans B1.out.size hb.size) (.cells Im.zero.cs 122))
      clear hb KR B1 CF hne
      dsimp only
      as_aux_lemma =>
        go_upto_region 4 with (refine store_st_new rfl _ _ rfl Im.zero rfl rfl ?_; generalize w3.alloc (.cells Im.zero.cs 122) = w4 at *)
        go_wp2_with (first | (refine build_ud0 rfl rfl ?_) | (refine store_ud rfl _ _ rfl U ud0 ud0 rfl rfl KR3.out ?_))
        refine bodyPost_ret (ud_ct rfl _ _ U ud0 (ud_bk KR3.out) rfl) rfl ?_
        exact ⟨er, NE.out, rfl, below_setRow B3.out UE.out _⟩
  · rw [decide_eq_false hk]
    clear hk CF
    as_aux_lemma =>
      go_wp2_with (first | (refine build_ud0 rfl rfl ?_) | (refine store_ud rfl _ _ rfl U ud0 ud0 rfl rfl KR.out ?_))
      refine bodyPost_ret (ud_ct rfl _ _ U ud0 (ud_bk KR.out) rfl) rfl ?_
      exact ⟨1, by decide, rfl, below_setRow B1.out UE.out _⟩
end Go.Proofs.YtelbioooggnbiaaGreat
namespace Go.Proofs.YtelbioooggnbiaaGreat
open Go.RowKit Go.ChangeShapes Go.WideShapes Go.ChangeAt Go.Deep

structure IsPage (v : Value) (p : Pg) : Prop where
  val : v = p.v
  bd : (-9223372036854775808 ≤ p.k ∧ p.k ≤ 9223372036854775807) ∧ (-9223372036854775808 ≤ p.l ∧ p.l ≤ 9223372036854775807) ∧ (-9223372036854775808 ≤ p.s ∧ p.s ≤ 9223372036854775807) ∧ (-9223372036854775808 ≤ p.n ∧ p.n ≤ 9223372036854775807)
  cells : ∀ i, i < 6 → (-9223372036854775808 ≤ (p.c i).st ∧ (p.c i).st ≤ 9223372036854775807) ∧ (p.c i).d.size ≤ maxLen
structure IsCell (v : Value) (c : Ce) : Prop where
  val : v = c.v
  bd : -9223372036854775808 ≤ c.st ∧ c.st ≤ 9223372036854775807
  sz : c.d.size ≤ maxLen

section
variable {H : Type} {enc : TypeId × Value → H} {w : World} {base : Nat} {held : Bool}
set_option maxRecDepth 100000 in
theorem cell_trod {n : Nat} {a b : Value} {x : DataW H × List MemPlace} (h : DataW.trod enc Tryz.prog w base (fun _ => true) held n 35 [a, b] = some x) :
    ∃ c : Ce, a = .int .i64 c.st ∧ b = .string c.d ∧ (-9223372036854775808 ≤ c.st ∧ c.st ≤ 9223372036854775807) ∧ c.d.size ≤ maxLen := by
  obtain ⟨xs, m, _, _, _, hlen, hg⟩ := DataW.trod_struct Tryz.underlying35 h
  have cI : Tryz.prog.cellsOf 3 = 1 := by kernel_rfl
  have cS : Tryz.prog.cellsOf 9 = 1 := by kernel_rfl
  have hl2 : xs.length = 2 := hlen
  have hx : ∀ i, i < xs.length → ∃ y, xs[i]? = some y := fun i hi => ⟨_, List.getElem?_eq_getElem hi⟩
  have g0 : DataW.trod enc Tryz.prog w base (fun _ => true) held m 3 ([a, b].drop 0 |>.take (Tryz.prog.cellsOf 3)) = xs[0]? := hg 0 _ rfl
  have g1 : DataW.trod enc Tryz.prog w base (fun _ => true) held m 9 ([a, b].drop 1 |>.take (Tryz.prog.cellsOf 9)) = xs[1]? := hg 1 _ rfl
  rw [cI] at g0
  rw [cS] at g1
  obtain ⟨y0, e0⟩ := hx 0 (by omega)
  obtain ⟨y1, e1⟩ := hx 1 (by omega)
  obtain ⟨n1, hn1, _, z1⟩ := DataW.trod_int Tryz.underlying3 (g0.trans e0)
  obtain ⟨s2, hs2, _, z2⟩ := DataW.trod_string Tryz.underlying9 (g1.trans e1)
  have b1 : -9223372036854775808 ≤ n1 ∧ n1 ≤ 9223372036854775807 := by simpa [Lit.wf, IntKind.min, IntKind.max, IntKind.signed, IntKind.bits] using z1
  exact ⟨⟨n1, s2⟩, by simpa using hn1, by simpa using hs2, b1, z2⟩
set_option maxRecDepth 100000 in
theorem read_cell {r : Reach} {b0 : Nat} {d : DataW H} {p : List MemPlace} {v : Value}
    (hv : Value.okWide Tryz.prog w r b0 35 v) (h : DataW.Trod enc Tryz.prog w base (fun _ => true) held 35 v d p) : ∃ c : Ce, IsCell v c := by
  obtain ⟨cs, rfl, hsz⟩ := okWide_struct Tryz.underlying35 hv
  obtain ⟨l⟩ := cs
  have h2 : Tryz.prog.cellsOf 35 = 2 := by kernel_rfl
  rw [h2] at hsz
  match l, hsz with
  | [c0, c1], _ =>
    obtain ⟨fuel, hf⟩ := h
    obtain ⟨c, h1, h2, h3, h4⟩ := cell_trod hf
    subst h1 h2
    exact ⟨c, rfl, h3, h4⟩
set_option maxRecDepth 100000 in
theorem read_page {r : Reach} {b0 : Nat} {d : DataW H} {p : List MemPlace} {v : Value}
    (hv : Value.okWide Tryz.prog w r b0 38 v) (h : DataW.Trod enc Tryz.prog w base (fun _ => true) held 38 v d p) : ∃ q : Pg, IsPage v q := by
  obtain ⟨cs, rfl, hsz⟩ := okWide_struct Tryz.underlying38 hv
  obtain ⟨l⟩ := cs
  have h16 : Tryz.prog.cellsOf 38 = 16 := by kernel_rfl
  rw [h16] at hsz
  have cI : Tryz.prog.cellsOf 3 = 1 := by kernel_rfl
  have cC : Tryz.prog.cellsOf 35 = 2 := by kernel_rfl
  have cA : Tryz.prog.cellsOf 36 = 12 := by kernel_rfl
  match l, hsz with
  | [c0, c1, c2, c3, c4, c5, c6, c7, c8, c9, c10, c11, c12, c13, c14, c15], _ =>
    obtain ⟨fuel, hf⟩ := h
    obtain ⟨xs, n, _, hxd, hpl, hlen, hg⟩ := DataW.trod_struct Tryz.underlying38 hf
    have hx : ∀ i, i < xs.length → ∃ y, xs[i]? = some y := fun i hi => ⟨_, List.getElem?_eq_getElem hi⟩
    have hl5 : xs.length = 5 := hlen
    generalize hL : [c0, c1, c2, c3, c4, c5, c6, c7, c8, c9, c10, c11, c12, c13, c14, c15] = L at hg
    have g0 : DataW.trod enc Tryz.prog w base (fun _ => true) held n 3 (L.drop 0 |>.take (Tryz.prog.cellsOf 3)) = xs[0]? := hg 0 _ rfl
    have g1 : DataW.trod enc Tryz.prog w base (fun _ => true) held n 3 (L.drop 1 |>.take (Tryz.prog.cellsOf 3)) = xs[1]? := hg 1 _ rfl
    have g2 : DataW.trod enc Tryz.prog w base (fun _ => true) held n 3 (L.drop 2 |>.take (Tryz.prog.cellsOf 3)) = xs[2]? := hg 2 _ rfl
    have g3 : DataW.trod enc Tryz.prog w base (fun _ => true) held n 3 (L.drop 3 |>.take (Tryz.prog.cellsOf 3)) = xs[3]? := hg 3 _ rfl
    have g4 : DataW.trod enc Tryz.prog w base (fun _ => true) held n 36 (L.drop 4 |>.take (Tryz.prog.cellsOf 36)) = xs[4]? := hg 4 _ rfl
    subst hL
    rw [cI] at g0 g1 g2 g3
    rw [cA] at g4
    obtain ⟨y0, e0⟩ := hx 0 (by omega)
    obtain ⟨y1, e1⟩ := hx 1 (by omega)
    obtain ⟨y2, e2⟩ := hx 2 (by omega)
    obtain ⟨y3, e3⟩ := hx 3 (by omega)
    obtain ⟨y4, e4⟩ := hx 4 (by omega)
    obtain ⟨n0, hn0, _, z0⟩ := DataW.trod_int Tryz.underlying3 (g0.trans e0)
    obtain ⟨n1, hn1, _, z1⟩ := DataW.trod_int Tryz.underlying3 (g1.trans e1)
    obtain ⟨n2, hn2, _, z2⟩ := DataW.trod_int Tryz.underlying3 (g2.trans e2)
    obtain ⟨n3, hn3, _, z3⟩ := DataW.trod_int Tryz.underlying3 (g3.trans e3)
    obtain ⟨ys, m, _, _, _, hyl, hy⟩ := DataW.trod_array Tryz.underlying36 (g4.trans e4)
    rw [cC] at hy
    have hyx : ∀ i, i < 6 → ∃ y, ys[i]? = some y := fun i hi => ⟨_, List.getElem?_eq_getElem (by omega)⟩
    obtain ⟨u0, f0⟩ := hyx 0 (by omega)
    obtain ⟨u1, f1⟩ := hyx 1 (by omega)
    obtain ⟨u2, f2⟩ := hyx 2 (by omega)
    obtain ⟨u3, f3⟩ := hyx 3 (by omega)
    obtain ⟨u4, f4⟩ := hyx 4 (by omega)
    obtain ⟨u5, f5⟩ := hyx 5 (by omega)
    obtain ⟨k0, a0, b0, m0, s0⟩ := cell_trod (a := c4) (b := c5) ((hy 0 (by omega)).trans f0)
    obtain ⟨k1, a1, b1, m1, s1⟩ := cell_trod (a := c6) (b := c7) ((hy 1 (by omega)).trans f1)
    obtain ⟨k2, a2, b2, m2, s2⟩ := cell_trod (a := c8) (b := c9) ((hy 2 (by omega)).trans f2)
    obtain ⟨k3, a3, b3, m3, s3⟩ := cell_trod (a := c10) (b := c11) ((hy 3 (by omega)).trans f3)
    obtain ⟨k4, a4, b4, m4, s4⟩ := cell_trod (a := c12) (b := c13) ((hy 4 (by omega)).trans f4)
    obtain ⟨k5, a5, b5, m5, s5⟩ := cell_trod (a := c14) (b := c15) ((hy 5 (by omega)).trans f5)
    have hi : ∀ {x : Int}, (Lit.int .i64 x).wf = true → -9223372036854775808 ≤ x ∧ x ≤ 9223372036854775807 := fun h => by simpa [Lit.wf, IntKind.min, IntKind.max, IntKind.signed, IntKind.bits] using h
    simp at hn0 hn1 hn2 hn3
    subst hn0 hn1 hn2 hn3 a0 b0 a1 b1 a2 b2 a3 b3 a4 b4 a5 b5
    refine ⟨⟨n0, n1, n2, n3, fun i => if i = 0 then k0 else if i = 1 then k1 else if i = 2 then k2 else if i = 3 then k3 else if i = 4 then k4 else k5⟩, rfl, ⟨hi z0, hi z1, hi z2, hi z3⟩, fun i hi6 => ?_⟩
    rcases six hi6 with rfl | rfl | rfl | rfl | rfl | rfl
    · exact ⟨m0, s0⟩
    · exact ⟨m1, s1⟩
    · exact ⟨m2, s2⟩
    · exact ⟨m3, s3⟩
    · exact ⟨m4, s4⟩
    · exact ⟨m5, s5⟩
end
end Go.Proofs.YtelbioooggnbiaaGreat
namespace Go.Proofs.YtelbioooggnbiaaGreat
open Go.RowKit

/-- What stands elsewhere plays no part in an index. -/
theorem Ix.frame {pg pg' : Nat → Pg} {n : Nat} {ow ow' : Nat → Option Int} {sn : Int} {rt H : Nat} {lf ids : List Nat} {R : List (ByteArray × Ce)} {ff : Prop} (h : Ix pg n ow sn rt H lf ids R ff) (hp : ∀ i, i ∈ ids → pg' i = pg i) (ho : ∀ i, i ∈ ids → ow' i = ow i) : Ix pg' n ow' sn rt H lf ids R ff := by
  refine ⟨h.tr.frame fun i hi => ?_, h.nd, fun i hi => ?_, h.ch.same fun i hi => ?_, fun x i hi hr => ?_, h.hn⟩
  · show ndOf (pg' i) = ndOf (pg i)
    rw [hp i hi]
  · have p := h.pgs i hi
    exact ⟨p.two, p.lt, by rw [hp i hi]; exact p.nd, by rw [hp i hi]; exact p.ok, by rw [ho i hi]; exact p.ow, by rw [hp i hi]; exact p.s, fun hl => by rw [hp i hi] at hl ⊢; exact p.fl hl⟩
  · rw [hp i (h.lf_mem hi).1]
  · rw [hp i hi]; exact h.ff x i hi hr
/-- One store's pages hang together. -/
def StoreOk (pg : Nat → Pg) (n : Nat) (kd rt : Nat) (ow : Nat → Option Int) (j : Nat) (P : List Nat) : Prop :=
  (kd = 1 → P.Nodup ∧ (∃ l, P = rt :: l) ∧ Chn (fun i => (pg i).n.toNat) P ∧ ∀ i, i ∈ P → PgH pg n ow ((j : Int) + 1) i) ∧
  (kd ≠ 1 → ∃ H lf R, Ix pg n ow ((j : Int) + 1) rt H lf P R False)
theorem StoreOk.frame {pg pg' : Nat → Pg} {n kd rt : Nat} {ow ow' : Nat → Option Int} {j : Nat} {P : List Nat} (h : StoreOk pg n kd rt ow j P) (hp : ∀ i, i ∈ P → pg' i = pg i) (ho : ∀ i, i ∈ P → ow' i = ow i) : StoreOk pg' n kd rt ow' j P := by
  refine ⟨fun hk => ?_, fun hk => ?_⟩
  · obtain ⟨h1, h2, h3, h4⟩ := h.1 hk
    refine ⟨h1, h2, h3.same fun i hi => by rw [hp i hi], fun i hi => ?_⟩
    have p := h4 i hi
    exact ⟨p.two, p.lt, by rw [hp i hi]; exact p.hp, by rw [hp i hi]; exact p.ok, by rw [ho i hi]; exact p.ow, by rw [hp i hi]; exact p.s⟩
  · obtain ⟨H, lf, R, ix⟩ := h.2 hk
    exact ⟨H, lf, R, ix.frame hp ho⟩
section
variable {pg pg' : Nat → Pg} {N n : Nat} {st st' : Nat → Int} {kd kd' rt rt' : Nat → Nat} {ow ow' : Nat → Option Int} {P P' : Nat → List Nat}
theorem Snd.sto (h : Snd pg n st kd rt ow P) {j : Nat} (hj : j < 6) (hs : st j ≠ 0) : StoreOk pg n (kd j) (rt j) ow j (P j) := ⟨h.heap j hj hs, h.tree j hj hs⟩
theorem Snd.of (hv : Vol pg n st kd rt ow) (hs : ∀ j, j < 6 → st j ≠ 0 → StoreOk pg n (kd j) (rt j) ow j (P j)) (ho : ∀ i, i < n → (ow i).isSome = true → i < 2 ∨ ∃ j, j < 6 ∧ st j ≠ 0 ∧ i ∈ P j) : Snd pg n st kd rt ow P :=
  ⟨hv, fun j hj h0 => (hs j hj h0).1, fun j hj h0 => (hs j hj h0).2, ho⟩
/-- Pages of unlike stores are unlike. -/
theorem Snd.apart (h : Snd pg n st kd rt ow P) {i j x : Nat} (hi : i < 6) (hj : j < 6) (si : st i ≠ 0) (sj : st j ≠ 0) (e : i ≠ j) (hx : x ∈ P i) : x ∉ P j := fun hy => by
  have a := (h.pgs hi si hx).2.2
  have b := (h.pgs hj sj hy).2.2
  rw [a] at b
  have := Option.some.inj b
  omega
/-- A store's cell is otherwise. -/
theorem Snd.state (h : Snd pg n st kd rt ow P) {j : Nat} (hj : j < 6) (hs : st j ≠ 0) {x : Int} (hx : x = 1 ∨ x = 2) : Snd (upd pg 0 (setSt (pg 0) j x)) n (put st j x) kd rt ow P := by
  have nz : ∀ i, put st j x i ≠ 0 ↔ st i ≠ 0 := fun i => by
    unfold put
    by_cases e : i = j
    · rw [if_pos e, e]; exact ⟨fun _ => hs, fun _ => by omega⟩
    · rw [if_neg e]
  refine Snd.of (h.vol.state j hj hs x hx) (fun i hi si => (h.sto hi ((nz i).1 si)).frame (fun q hq => ?_) fun q hq => rfl) fun i hi ho => ?_
  · have := (h.pgs hi ((nz i).1 si) hq).1
    exact upd_ne _ _ (by omega)
  · rcases h.only i hi ho with h1 | ⟨q, h1, h2, h3⟩
    · exact .inl h1
    · exact .inr ⟨q, h1, (nz q).2 h2, h3⟩
/-- A store is forgotten. -/
theorem Snd.forget (h : Snd pg n st kd rt ow P) {j : Nat} (hj : j < 6) (hs : st j ≠ 0) {pg' : Nat → Pg} (hv : Vol pg' n (put st j 0) kd rt (owF ow ((j : Int) + 1))) (he : ∀ i, 2 ≤ i → pg' i = pg i) : Snd pg' n (put st j 0) kd rt (owF ow ((j : Int) + 1)) P := by
  have nz : ∀ i, put st j 0 i ≠ 0 → i ≠ j ∧ st i ≠ 0 := fun i hi => by
    by_cases e : i = j
    · rw [e, put_at] at hi; exact absurd rfl hi
    · rw [put_ne _ _ e] at hi; exact ⟨e, hi⟩
  refine Snd.of hv (fun i hi si => (h.sto hi (nz i si).2).frame (fun q hq => he q (h.pgs hi (nz i si).2 hq).1) fun q hq => ?_) fun i hi ho => ?_
  · have := (h.pgs hi (nz i si).2 hq).2.2
    have := (nz i si).1
    unfold owF
    rw [if_neg]
    rintro ⟨h1, h2⟩
    have e := (h.pgs hi (nz i si).2 hq).2.2
    rw [h2] at e
    have := Option.some.inj e
    omega
  · unfold owF at ho
    by_cases hc : 2 ≤ i ∧ ow i = some ((j : Int) + 1)
    · rw [if_pos hc] at ho; cases ho
    · rw [if_neg hc] at ho
      rcases h.only i hi ho with h1 | ⟨q, h1, h2, h3⟩
      · exact .inl h1
      · right
        have hqj : q ≠ j := fun e => hc ⟨(h.pgs h1 h2 h3).1, by rw [(h.pgs h1 h2 h3).2.2, e]⟩
        exact ⟨q, h1, by rw [put_ne _ _ hqj]; exact h2, h3⟩
/-- A page that is a root, alone. -/
theorem sto_new {pg : Nat → Pg} {n kind : Nat} {ow : Nat → Option Int} {j id : Nat} (hj : j < 6) (h2 : 2 ≤ id) (hid : id < n) (hn : n ≤ 1024) (hp : pg id = newPg kind j) (ho : ow id = some ((j : Int) + 1)) : StoreOk pg n kind id ow j [id] := by
  refine ⟨fun hk => ⟨by simp, ⟨[], rfl⟩, ?_, fun i hi => ?_⟩, fun hk => ⟨0, [id], [], ?_⟩⟩
  · show (pg id).n.toNat = 0
    rw [hp]; rfl
  · obtain rfl : i = id := by simpa using hi
    have e : newPg kind j = pgK 3 ((j : Int) + 1) := by unfold newPg; rw [if_pos hk]
    exact ⟨h2, hid, by rw [hp, e]; exact ⟨rfl, fun q hq => by show (0 : Nat) ≤ 32; omega⟩, by rw [hp]; exact newPg_ok kind j hj, ho, by rw [hp]; rfl⟩
  · obtain ⟨no, nc⟩ := newPg_node kind j hk hj
    refine ⟨?_, by simp, fun i hi => ?_, ?_, fun x => x.elim, hn⟩
    · have t := Tr.leaf (lt := kL) (N := NN pg) (id := id) (a := none) (b := none) (by show (ndOf (pg id)).lv = 0; rw [hp]; rfl) (fun q hq => by
        have hq2 : q < cnt (pg id).c := hq
        rw [hp, nc] at hq2; omega) (fun q r _ hr => by
        have hq2 : r < cnt (pg id).c := hr
        rw [hp, nc] at hq2; omega)
      have e3 : (NN pg id).rows = [] := by
        show (List.range (cnt (pg id).c)).map _ = []
        rw [hp, nc]; rfl
      rw [e3] at t
      exact t
    · obtain rfl : i = id := by simpa using hi
      refine ⟨h2, hid, by rw [hp]; exact no, by rw [hp]; exact newPg_ok kind j hj, ho, by rw [hp]; rfl, fun h => absurd ?_ h⟩
      rw [hp]; rfl
    · show (pg id).n.toNat = 0
      rw [hp]; rfl
/-- A store more. -/
theorem Snd.make (h : Snd pg n st kd rt ow P) {j id : Nat} (hj : j < 6) (hs : st j = 0) (h2 : 2 ≤ id) (hid : id < n) (ho : ow id = none) {kind : Nat} (hk : kind < 256) :
    Snd (upd (upd (upd pg 1 (mrk (pg 1) id true)) id (newPg kind j)) 0 (putC (pg 0) j ⟨1, stoD kind id⟩)) n (put st j 1) (put kd j kind) (put rt j id) (put ow id (some ((j : Int) + 1))) (put P j [id]) := by
  have hl := h.vol.lo
  have hv := h.vol.make j id hj h2 hid kind hk
  refine Snd.of hv (fun i hi si => ?_) fun i hi hoi => ?_
  · by_cases e : i = j
    · subst e
      rw [put_at, put_at, put_at]
      refine sto_new hj h2 hid hl.2 ?_ (put_at _ _ _)
      unfold upd
      rw [if_neg (by omega), if_pos rfl]
    · rw [put_ne _ _ e] at si
      rw [put_ne _ _ e, put_ne _ _ e, put_ne _ _ e]
      have nid : ∀ q, q ∈ P i → q ≠ id := fun q hq e => by
        have := (h.pgs hi si hq).2.2
        rw [e, ho] at this; cases this
      refine (h.sto hi si).frame (fun q hq => ?_) fun q hq => put_ne _ _ (nid q hq)
      have := (h.pgs hi si hq).1
      unfold upd
      rw [if_neg (by omega), if_neg (nid q hq), if_neg (by omega)]
  · by_cases e : i = id
    · exact .inr ⟨j, hj, by rw [put_at]; decide, by rw [put_at, e]; simp⟩
    · rw [put_ne _ _ e] at hoi
      rcases h.only i hi hoi with h3 | ⟨q, h3, h4, h5⟩
      · exact .inl h3
      · have hq : q ≠ j := fun e => h4 (by rw [e]; exact hs)
        exact .inr ⟨q, h3, by rw [put_ne _ _ hq]; exact h4, by rw [put_ne _ _ hq]; exact h5⟩
/-- A store's pages are others: those that were none's more. -/
theorem Snd.store (h : Snd pg n st kd rt ow P) {j : Nat} (hj : j < 6) (hs : st j ≠ 0) {Q : List Nat} (hv : Vol pg' n st kd rt ow') (hst : StoreOk pg' n (kd j) (rt j) ow' j Q)
    (hfre : ∀ i, i ∈ Q → ow i = none ∨ ow i = some ((j : Int) + 1)) (hall : ∀ i, i ∈ P j → i ∈ Q) (hpg : ∀ i, i ≠ 1 → i ∉ Q → pg' i = pg i) (how : ∀ i, i ∉ Q → ow' i = ow i) : Snd pg' n st kd rt ow' (put P j Q) := by
  refine Snd.of hv (fun i hi si => ?_) fun i hi hoi => ?_
  · by_cases e : i = j
    · subst e
      rw [put_at]; exact hst
    · rw [put_ne _ _ e]
      have nq : ∀ q, q ∈ P i → q ∉ Q := fun q hq hq2 => by
        have a := (h.pgs hi si hq).2.2
        rcases hfre q hq2 with b | b
        · rw [a] at b; cases b
        · rw [a] at b
          have := Option.some.inj b
          omega
      exact (h.sto hi si).frame (fun q hq => hpg q (by have := (h.pgs hi si hq).1; omega) (nq q hq)) fun q hq => how q (nq q hq)
  · by_cases hq : i ∈ Q
    · exact .inr ⟨j, hj, hs, by rw [put_at]; exact hq⟩
    · rw [how i hq] at hoi
      rcases h.only i hi hoi with h1 | ⟨q, h1, h2, h3⟩
      · exact .inl h1
      · have hqj : q ≠ j := fun e => hq (hall i (by rw [← e]; exact h3))
        exact .inr ⟨q, h1, h2, by rw [put_ne _ _ hqj]; exact h3⟩
/-- The heap of a sound volume, as the heap's calls see it. -/
theorem Snd.hc (h : Snd pg n st kd rt ow P) (hs : st 0 = 1) (hk : kd 0 = 1) : letI : Fr := ⟨st, kd, rt, ow, pg⟩; ∃ L, Hc pg n (P 0) L ∧ ∀ p i, i < 6 → (L p i).d.size ≤ 32 := by
  letI fr : Fr := ⟨st, kd, rt, ow, pg⟩
  obtain ⟨h1, ⟨l, h2⟩, h3, h4⟩ := h.heap 0 (by omega) (by omega) hk
  have hd : (P 0).getD 0 0 = rt 0 := by rw [h2]; rfl
  refine ⟨fun p i => if p ∈ P 0 then (pg p).c i else blank, ⟨⟨st, kd, rt, ow, h.vol, ?_, hs, hk, hd.symm⟩⟩, fun p i hi => ?_⟩
  rotate_left
  · by_cases hp : p ∈ P 0
    · show (if p ∈ P 0 then (pg p).c i else blank).d.size ≤ 32
      rw [if_pos hp]; exact (h4 p hp).hp.2 i hi
    · show (if p ∈ P 0 then (pg p).c i else blank).d.size ≤ 32
      rw [if_neg hp]; show (0 : Nat) ≤ 32; omega
  refine @Hp.mk ⟨st, kd, rt, ow, pg⟩ pg n ow (P 0) _ (by rw [h2]; simp) h1 (fun p hp => ?_) (fun i hi => ?_) (fun p hp i hi => ?_) (fun p hp i => ?_) (fun i hi => rfl) (fun i h1 hi => rfl) h.vol (fun i hi => ?_) (fun i h5 h6 => ?_) hd
  · have p' := h4 p hp
    exact ⟨p'.two, p'.lt, p'.hp.1, p'.ok, p'.ow⟩
  · have nx : ∀ (ch : List Nat), Chn (fun i => (pg i).n.toNat) ch → ∀ i, i < ch.length → (pg (ch.getD i 0)).n.toNat = ch.getD (i + 1) 0 := by
      intro ch
      induction ch with
      | nil => intro _ i hi; simp at hi
      | cons x ch ih =>
        intro hc i hi
        cases i with
        | zero =>
          have := hc.next
          show (pg x).n.toNat = ch.getD 0 0
          rw [this]
          cases ch with
          | nil => rfl
          | cons y ch => rfl
        | succ i => exact ih hc.tail i (by simpa using hi)
    have e := nx _ h3 i hi
    have hp := (h4 _ (getD_mem hi)).ok.1
    unfold Pg.head at hp
    omega
  · show (pg p).c i = if p ∈ P 0 then _ else _
    rw [if_pos hp]
  · show (if p ∈ P 0 then _ else _) = blank
    rw [if_neg hp]
  · right
    exact (h4 i hi).ow
  · rcases h.only i h5 (by show (ow i).isSome = true; rw [show ow i = some 1 from h6]; rfl) with h7 | ⟨q, h7, h8, h9⟩
    · have h6 : ow i = some 1 := h6
      rcases (show i = 0 ∨ i = 1 by omega) with e | e
      · rw [e, h.vol.z.1] at h6; cases h6
      · rw [e, h.vol.z.2] at h6; cases h6
    · have h6 : ow i = some 1 := h6
      have := (h.pgs h7 h8 h9).2.2
      rw [h6] at this
      have := Option.some.inj this
      obtain rfl : q = 0 := by omega
      exact h9
theorem Snd.of_hc (h : Snd pg n st kd rt ow P) (hs : st 0 = 1) (hk : kd 0 = 1) {Q : List Nat} {L : Nat → Nat → Ce} (hc : letI : Fr := ⟨st, kd, rt, ow, pg⟩; Hc pg' n Q L) (hl : ∀ p i, i < 6 → (L p i).d.size ≤ 32) : ∃ ow', Snd pg' n st kd rt ow' (put P 0 Q) ∧ ∀ i, i ≠ 1 → i ∉ Q → pg' i = pg i := by
  letI fr : Fr := ⟨st, kd, rt, ow, pg⟩
  obtain ⟨st2, kd2, rt2, ow', hv, hp, -, -, -⟩ := hc.ex
  have nx : ∀ (ch : List Nat), (∀ i, i < ch.length → (pg' (ch.getD i 0)).n = ((ch.getD (i + 1) 0 : Nat) : Int)) → Chn (fun i => (pg' i).n.toNat) ch := by
    intro ch
    induction ch with
    | nil => intro _; trivial
    | cons x ch ih =>
      intro hc
      have h0 := hc 0 (by simp)
      refine Chn.mk ?_ (ih fun i hi => hc (i + 1) (by simpa using hi))
      have h0 : (pg' x).n = ((ch.getD 0 0 : Nat) : Int) := h0
      show (pg' x).n.toNat = ch.headD 0
      rw [h0, Int.toNat_natCast]
      cases ch with
      | nil => rfl
      | cons y ch => rfl
  refine ⟨ow', h.store (by omega) (by omega) hp.vf ⟨fun _ => ⟨hp.nd, ?_, nx _ hp.nx, fun i hi => ?_⟩, fun h => absurd hk h⟩ (fun i hi => hp.fre i hi) (fun i hi => ?_) (fun i h1 h2 => hp.same i h1 h2) (fun i hi => hp.only i hi), fun i h1 h2 => hp.same i h1 h2⟩
  · have hd : Q.getD 0 0 = rt 0 := hp.hd
    cases hq : Q with
    | nil => have := hp.ne; rw [hq] at this; simp at this
    | cons x l => rw [hq] at hd; exact ⟨l, by rw [← hd]; rfl⟩
  · obtain ⟨a, b, c, d, e⟩ := hp.pgs i hi
    exact ⟨a, b, ⟨c, fun q hq => by rw [hp.cell i hi q hq]; exact hl i q hq⟩, d, e, hp.vf.s i a b 1 e⟩
  · have := h.pgs (j := 0) (by omega) (by omega) hi
    exact hp.all i this.2.1 this.2.2
/-- The tree of a sound volume, as the tree's calls see it. -/
theorem Snd.tv (h : Snd pg n st kd rt ow P) (hl : LiveT st kd 2) : ∃ H lf R, Tv pg n st kd rt ow 2 H lf (P 1) R False := by
  have hs : st 1 = 1 := hl.2
  have hk : kd 1 = 2 ∨ kd 1 = 3 := hl.1
  obtain ⟨H, lf, R, ix⟩ := h.tree 1 (by omega) (by omega) (by omega)
  exact ⟨H, lf, R, h.vol, by omega, hs, hk, ix⟩
theorem Snd.of_tv (h : Snd pg n st kd rt ow P) {H : Nat} {lf ids : List Nat} {R : List (ByteArray × Ce)} {ff : Prop} (t : Tv pg' n st kd rt ow' 2 H lf ids R ff)
    (hfre : ∀ i, i ∈ ids → ow i = none ∨ i ∈ P 1) (hall : ∀ i, i ∈ P 1 → i ∈ ids) (hpg : ∀ i, i ≠ 1 → i ∉ ids → pg' i = pg i) (how : ∀ i, i ∉ ids → ow' i = ow i) : Snd pg' n st kd rt ow' (put P 1 ids) := by
  have hs : st 1 = 1 := t.st
  have hk : kd 1 = 2 ∨ kd 1 = 3 := t.kd
  refine h.store (by omega) (by omega) t.vol ⟨fun h => by omega, fun _ => ⟨H, lf, R, ?_⟩⟩ (fun i hi => ?_) hall hpg how
  · exact ⟨t.ix.tr, t.ix.nd, t.ix.pgs, t.ix.ch, fun x => x.elim, t.ix.hn⟩
  · rcases hfre i hi with h1 | h1
    · exact .inl h1
    · exact .inr (h.pgs (by omega) (by omega) h1).2.2
end
end Go.Proofs.YtelbioooggnbiaaGreat
namespace Go.Proofs.YtelbioooggnbiaaGreat
open Go.RowKit Go.Maps Go.Shelf

/-- A volume whose stores hang together, and whose pages are pages. -/
def VS (N n : Nat) (pg : Nat → Pg) : Prop := ∃ st kd rt ow P, Snd pg n st kd rt ow P ∧ ∀ i, i < N → (pg i).ok
theorem Snd.oks {pg pg' : Nat → Pg} {N n : Nat} {st : Nat → Int} {kd rt : Nat → Nat} {ow : Nat → Option Int} {P : Nat → List Nat} (h : Snd pg' n st kd rt ow P) (ho : ∀ i, i < N → (pg i).ok) (he : ∀ i, 2 ≤ i → (∀ j, j < 6 → st j ≠ 0 → i ∉ P j) → pg' i = pg i) : VS N n pg' := by
  refine ⟨st, kd, rt, ow, P, h, fun i hi => ?_⟩
  by_cases h2 : 2 ≤ i
  · by_cases hx : ∃ j, j < 6 ∧ st j ≠ 0 ∧ i ∈ P j
    · obtain ⟨j, hj, hs, hm⟩ := hx
      by_cases hk : kd j = 1
      · exact ((h.heap j hj hs hk).2.2.2 i hm).ok
      · obtain ⟨H, lf, R, ix⟩ := h.tree j hj hs hk
        exact (ix.pgs i hm).ok
    · rw [he i h2 fun j h1 h2 h3 => hx ⟨j, h1, h2, h3⟩]
      exact ho i hi
  · rcases (show i = 0 ∨ i = 1 by omega) with e | e
    · rw [e]; exact h.vol.d.ok
    · rw [e]; exact h.vol.m.ok
/-- Between the calls. -/
structure Av (w0 w : World) (g b gs r N n m : Nat) : Prop where
  ex : ∃ M pg, SV w w0.heap.size g b gs r N M pg pg ∧ M ≤ m ∧ VS N n pg
  hn : n ≤ N
  kp : Below w0.heap.size w0 w
/-- Behind a call. -/
structure Ac (w0 w : World) (g b gs r N n m : Nat) (er : Int) : Prop where
  ex : ∃ M und pg, SV w w0.heap.size g b gs r N M und pg ∧ M ≤ m ∧ VS N n und ∧ (er = 0 → VS N n pg)
  hn : n ≤ N
  kp : Below w0.heap.size w0 w
section
variable {w0 w w' : World} {g b gs r N n m : Nat}
theorem Av.kept (h : Av w0 w g b gs r N n m) (hb : Below w.heap.size w w') : Av w0 w' g b gs r N n m := by
  obtain ⟨M, pg, h1, h2⟩ := h.ex
  exact ⟨⟨M, pg, h1.kept hb, h2⟩, h.hn, below_then h.kp hb h.kp.size⟩
theorem Ac.alloc {er : Int} (h : Ac w0 w g b gs r N n m er) (o : Obj) : Ac w0 (w.alloc o) g b gs r N n m er := by
  obtain ⟨M, und, pg, h1, h2⟩ := h.ex
  exact ⟨⟨M, und, pg, h1.alloc o, h2⟩, h.hn, h.kp.alloc h.kp.size o⟩
/-- A call that errs. -/
theorem Av.err (h : Av w0 w g b gs r N n m) (hb : Below w.heap.size w w') {er : Int} (he : er ≠ 0) (d : Nat) : Ac w0 w' g b gs r N n (m + d) er := by
  obtain ⟨M, pg, h1, h2, h3⟩ := h.ex
  exact ⟨⟨M, pg, pg, h1.kept hb, by omega, h3, fun e => absurd e he⟩, h.hn, below_then h.kp hb h.kp.size⟩
theorem av_insert (h : Av w0 w g b gs r N n m) (hm : m + 40 < maxLen) (key : ByteArray) : Calls Tryz.prog 24 #[.pointer (some ⟨g, 0, none⟩), .int .i64 1, .string key, .slice none 0 0] w fun e w' => ∃ (a : Int) (u : Ud) (er : Int), e = .returned (.tuple #[.int .i64 a, .agg u.cs, .int .i64 er]) ∧ Ac w0 w' g b gs r N n (m + 40) er := by
  obtain ⟨M, pg, h1, h2, st, kd, rt, ow, P, hs, hok⟩ := h.ex
  by_cases hg : kd 0 = 1 ∧ st 0 = 1
  · letI fr : Fr := ⟨st, kd, rt, ow, pg⟩
    obtain ⟨L, hc, hL⟩ := hs.hc hg.2 hg.1
    refine (insert_any h1 h.hn hc (by omega) key (.slice none 0 0) 0 (fun _ => 0) (by omega) ⟨none, 0, rfl, fun _ => ⟨rfl, rfl⟩, fun h => absurd h (Nat.lt_irrefl 0)⟩).mono ?_
    rintro e w' (⟨-, rfl, hb⟩ | ⟨-, rfl, -, -, M', pg', ch', hM, hsv, -, hgr⟩ | ⟨p, s, hsz, hs6, -, -, -, rfl, -, M', pg', ch', -, hM, hsv, hc', hgr⟩)
    · exact ⟨0, ud0, 2, rfl, h.err hb (by decide) 40⟩
    · exact ⟨0, ud0, 140, rfl, ⟨M', pg, pg', hsv, by omega, ⟨st, kd, rt, ow, P, hs, hok⟩, fun e => by cases e⟩, h.hn, h1.touch h.kp rfl hgr (.inl rfl)⟩
    · obtain ⟨ow', hs', he⟩ := hs.of_hc hg.2 hg.1 hc' (fun q i hi => by
        unfold putL
        split
        · exact hsz
        · exact hL q i hi)
      refine ⟨_, _, 0, rfl, ⟨M', pg, pg', hsv, by omega, ⟨st, kd, rt, ow, P, hs, hok⟩, fun _ => hs'.oks hok fun i h2 hi => he i (by omega) ?_⟩, h.hn, h1.touch h.kp rfl hgr (.inl rfl)⟩
      have := hi 0 (by omega) (by rw [hg.2]; decide)
      rw [put_at] at this
      exact this
  · refine (insert_err h1 hs.vol hg key none 0 0).mono ?_
    rintro e w' ⟨er, hne, rfl, hb⟩
    exact ⟨0, ud0, er, rfl, h.err hb hne 40⟩
theorem av_delete (h : Av w0 w g b gs r N n m) (hm : m + 40 < maxLen) (id : Int) (hid : -9223372036854775808 ≤ id ∧ id ≤ 9223372036854775807) : Calls Tryz.prog 25 #[.pointer (some ⟨g, 0, none⟩), .int .i64 1, .int .i64 id] w fun e w' => ∃ (u : Ud) (er : Int), e = .returned (.tuple #[.agg u.cs, .int .i64 er]) ∧ Ac w0 w' g b gs r N n (m + 40) er := by
  obtain ⟨M, pg, h1, h2, st, kd, rt, ow, P, hs, hok⟩ := h.ex
  by_cases hg : kd 0 = 1 ∧ st 0 = 1
  · letI fr : Fr := ⟨st, kd, rt, ow, pg⟩
    obtain ⟨L, hc, hL⟩ := hs.hc hg.2 hg.1
    refine (delete_any h1 h.hn hc (by omega) id hid).mono ?_
    rintro e w' (⟨-, rfl, hb⟩ | ⟨p, s, hs6, -, -, -, rfl, pg', hsv, hc', hgr⟩)
    · exact ⟨ud0, 150, rfl, h.err hb (by decide) 40⟩
    · obtain ⟨ow', hs', he⟩ := hs.of_hc hg.2 hg.1 hc' (fun q i hi => by
        unfold putL
        split
        · exact hL p s hs6
        · exact hL q i hi)
      refine ⟨_, 0, rfl, ⟨M + 1, pg, pg', hsv, by omega, ⟨st, kd, rt, ow, P, hs, hok⟩, fun _ => hs'.oks hok fun i h2 hi => he i (by omega) ?_⟩, h.hn, h1.touch h.kp rfl hgr (.inl rfl)⟩
      have := hi 0 (by omega) (by rw [hg.2]; decide)
      rw [put_at] at this
      exact this
  · refine (delete_err h1 hs.vol hg id hid).mono ?_
    rintro e w' ⟨er, hne, rfl, hb⟩
    exact ⟨ud0, er, rfl, h.err hb hne 40⟩
theorem av_put (h : Av w0 w g b gs r N n m) (hm : m + 40 < maxLen) (key : ByteArray) (hk : key.size ≤ maxLen) (kv : Value) (keep : List ByteArray) (hkp : SRow w kv keep) : Calls Tryz.prog 26 #[.pointer (some ⟨g, 0, none⟩), .int .i64 2, .string key, .string ⟨#[]⟩, kv] w fun e w' => ∃ (u : Ud) (er : Int), e = .returned (.tuple #[.agg u.cs, .int .i64 er]) ∧ Ac w0 w' g b gs r N n (m + 40) er := by
  obtain ⟨M, pg, h1, h2, st, kd, rt, ow, P, hs, hok⟩ := h.ex
  by_cases hg : LiveT st kd 2
  · obtain ⟨H, lf, R, tv⟩ := hs.tv hg
    have s1 : st 1 = 1 := hg.2
    have cp := tput_any h1 h.hn tv (by omega) key ⟨#[]⟩ hk (by unfold maxLen; decide) kv keep hkp
    rw [show ((2 : Nat) : Int) = 2 from rfl] at cp
    refine cp.mono ?_
    rintro e w' (⟨-, rfl, hb⟩ | ⟨-, -, rfl, hb⟩ | ⟨-, -, ⟨-, rfl, hb⟩ | ⟨c, R', pg', -, -, rfl, hsv, htv, -, hgr, he⟩ | ⟨-, hgr, ⟨rfl, -, pgx, hsv⟩ | ⟨rfl, pg', ow', H', lf', ids', R', R0, news, hsv, htv, -, -, ⟨hpm, -⟩, hnw, hno, hnp⟩⟩⟩)
    · exact ⟨ud0, 1, rfl, h.err hb (by decide) 40⟩
    · exact ⟨ud0, 2, rfl, h.err hb (by decide) 40⟩
    · exact ⟨ud0, 160, rfl, h.err hb (by decide) 40⟩
    · have hs' := hs.of_tv htv (fun i hi => .inr hi) (fun i hi => hi) (fun i _ hi => he i hi) (fun i hi => rfl)
      refine ⟨_, 0, rfl, ⟨M + 1, pg, pg', hsv, by omega, ⟨st, kd, rt, ow, P, hs, hok⟩, fun _ => hs'.oks hok fun i h2 hi => he i ?_⟩, h.hn, h1.touch h.kp rfl hgr (.inl rfl)⟩
      have := hi 1 (by omega) (by rw [s1]; decide)
      rw [put_at] at this
      exact this
    · exact ⟨ud0, 140, rfl, ⟨M + 40, pg, pgx, hsv, by omega, ⟨st, kd, rt, ow, P, hs, hok⟩, fun e => by cases e⟩, h.hn, h1.touch h.kp rfl hgr (.inl rfl)⟩
    · have hm : ∀ i, i ∉ ids' → i ∉ P 1 ∧ i ∉ news := fun i hi => ⟨fun hx => hi (hpm.mem_iff.2 (List.mem_append_right _ hx)), fun hx => hi (hpm.mem_iff.2 (List.mem_append_left _ hx))⟩
      have hs' := hs.of_tv htv (fun i hi => by
        rcases List.mem_append.1 (hpm.mem_iff.1 hi) with h3 | h3
        · exact .inl (hnw i h3)
        · exact .inr h3) (fun i hi => hpm.mem_iff.2 (List.mem_append_right _ hi)) (fun i h1 hi => hnp i h1 (hm i hi).1 (hm i hi).2) (fun i hi => hno i (hm i hi).2)
      refine ⟨_, 0, rfl, ⟨M + 40, pg, pg', hsv, by omega, ⟨st, kd, rt, ow, P, hs, hok⟩, fun _ => hs'.oks hok fun i h2 hi => ?_⟩, h.hn, h1.touch h.kp rfl hgr (.inl rfl)⟩
      have := hi 1 (by omega) (by rw [s1]; decide)
      rw [put_at] at this
      exact hnp i (by omega) (hm i this).1 (hm i this).2
  · have cp := tput_err h1 hs.vol 2 (by omega) hg key ⟨#[]⟩ kv
    rw [show ((2 : Nat) : Int) = 2 from rfl] at cp
    refine cp.mono ?_
    rintro e w' ⟨er, hne, rfl, hb⟩
    exact ⟨ud0, er, rfl, h.err hb hne 40⟩
theorem av_cut (h : Av w0 w g b gs r N n m) (hm : m + 40 < maxLen) (key : ByteArray) : Calls Tryz.prog 27 #[.pointer (some ⟨g, 0, none⟩), .int .i64 2, .string key] w fun e w' => ∃ (u : Ud) (er : Int), e = .returned (.tuple #[.agg u.cs, .int .i64 er]) ∧ Ac w0 w' g b gs r N n (m + 40) er := by
  obtain ⟨M, pg, h1, h2, st, kd, rt, ow, P, hs, hok⟩ := h.ex
  by_cases hg : LiveT st kd 2
  · obtain ⟨H, lf, R, tv⟩ := hs.tv hg
    have s1 : st 1 = 1 := hg.2
    have cp := tcut_any h1 h.hn tv (by omega) key
    rw [show ((2 : Nat) : Int) = 2 from rfl] at cp
    refine cp.mono ?_
    rintro e w' (⟨-, rfl, hb⟩ | ⟨-, ⟨-, rfl, hb⟩ | ⟨c, R', pg', -, -, rfl, hsv, htv, -, hgr, he⟩⟩)
    · exact ⟨ud0, 1, rfl, h.err hb (by decide) 40⟩
    · exact ⟨ud0, 150, rfl, h.err hb (by decide) 40⟩
    · have hs' := hs.of_tv htv (fun i hi => .inr hi) (fun i hi => hi) (fun i _ hi => he i hi) (fun i hi => rfl)
      refine ⟨_, 0, rfl, ⟨M + 1, pg, pg', hsv, by omega, ⟨st, kd, rt, ow, P, hs, hok⟩, fun _ => hs'.oks hok fun i h2 hi => he i ?_⟩, h.hn, h1.touch h.kp rfl hgr (.inl rfl)⟩
      have := hi 1 (by omega) (by rw [s1]; decide)
      rw [put_at] at this
      exact this
  · have cp := tcut_err h1 hs.vol 2 (by omega) hg key
    rw [show ((2 : Nat) : Int) = 2 from rfl] at cp
    refine cp.mono ?_
    rintro e w' ⟨er, hne, rfl, hb⟩
    exact ⟨ud0, er, rfl, h.err hb hne 40⟩
theorem av_make (h : Av w0 w g b gs r N n m) (hm : m + 40 < maxLen) (k : Int) : Calls Tryz.prog 19 #[.pointer (some ⟨g, 0, none⟩), .int .i64 k] w fun e w' => ∃ a er : Int, e = .returned (.tuple #[.int .i64 a, .int .i64 er]) ∧ Ac w0 w' g b gs r N n (m + 40) er := by
  obtain ⟨M, pg, h1, h2, st, kd, rt, ow, P, hs, hok⟩ := h.ex
  have hl := hs.vol.lo
  have hn := h.hn
  have hM : M + 2 < maxLen := by omega
  have key : ∀ (kind : Nat) (e : Ending) (w' : World), kind < 256 → MakePost w w0.heap.size g b gs r N M n pg pg kind e w' → ∃ a er : Int, e = .returned (.tuple #[.int .i64 a, .int .i64 er]) ∧ Ac w0 w' g b gs r N n (m + 40) er := by
    rintro kind e w' hk (⟨-, rfl, hb⟩ | ⟨j, -, -, -, rfl, hb⟩ | ⟨j, id, hj, hz, -, hid, hno, -, rfl, hsv, hg⟩)
    · exact ⟨_, _, rfl, h.err hb (by decide) 40⟩
    · exact ⟨_, _, rfl, h.err hb (by decide) 40⟩
    · rw [hs.vol.own id hid] at hno
      have ho : ow id = none := by cases e : ow id with | none => rfl | some x => rw [e] at hno; cases hno
      have i2 : 2 ≤ id := by
        rcases (show id = 0 ∨ id = 1 ∨ 2 ≤ id by omega) with e | e | e
        · subst e; rw [hs.vol.z.1] at ho; cases ho
        · subst e; rw [hs.vol.z.2] at ho; cases ho
        · exact e
      have hs' := hs.make hj (by rw [← hs.vol.st j hj]; exact hz) i2 hid ho hk
      refine ⟨_, 0, rfl, ⟨_, pg, _, hsv, by omega, ⟨st, kd, rt, ow, P, hs, hok⟩, fun _ => hs'.oks hok fun i h2 hi => ?_⟩, hn, h1.touch h.kp rfl hg (.inl rfl)⟩
      have := hi j hj (by rw [put_at]; decide)
      rw [put_at] at this
      have hne : i ≠ id := fun e => this (by rw [e]; simp)
      unfold upd
      rw [if_neg (by omega), if_neg hne, if_neg (by omega)]
  by_cases k1 : k = 1
  · subst k1; exact (make_1 h1 (by omega) hn hs.vol.d.k hs.vol.d.ok hs.vol.m hM).mono fun e w' hp => key 1 e w' (by decide) hp
  by_cases k2 : k = 2
  · subst k2; exact (make_2 h1 (by omega) hn hs.vol.d.k hs.vol.d.ok hs.vol.m hM).mono fun e w' hp => key 2 e w' (by decide) hp
  by_cases k3 : k = 3
  · subst k3; exact (make_3 h1 (by omega) hn hs.vol.d.k hs.vol.d.ok hs.vol.m hM).mono fun e w' hp => key 3 e w' (by decide) hp
  exact (make_bad k w k1 k2 k3).mono fun e w' ⟨a, c⟩ => ⟨_, _, a, h.err (by rw [c]; exact Below.refl _ _) (by decide) 40⟩
theorem av_forget (h : Av w0 w g b gs r N n m) (hm : m + 40 < maxLen) (s : Int) : Calls Tryz.prog 28 #[.pointer (some ⟨g, 0, none⟩), .int .i64 s] w fun e w' => ∃ er : Int, e = .returned (.int .i64 er) ∧ Ac w0 w' g b gs r N n (m + 40) er := by
  obtain ⟨M, pg, h1, h2, st, kd, rt, ow, P, hs, hok⟩ := h.ex
  have hl := hs.vol.lo
  have hn := h.hn
  refine (forget_good h1 (by omega) hn hs.vol.d.k hs.vol.d.ok hs.vol.m (by omega) s).mono ?_
  rintro e w' (⟨-, rfl, hb⟩ | ⟨ht, rfl, hsv, hg⟩)
  · exact ⟨1, rfl, h.err hb (by decide) 40⟩
  · obtain ⟨a, c, d⟩ := (hs.vol.there s).1 ht
    obtain ⟨j, rfl⟩ : ∃ j : Nat, s = (j : Int) + 1 := ⟨(s - 1).toNat, by omega⟩
    have ej : (((j : Int) + 1) - 1).toNat = j := by omega
    rw [ej] at d hsv
    have hs' := hs.forget (j := j) (by omega) d (hs.vol.forget ((j : Int) + 1) j (by omega)) (fun i hi => by unfold upd; rw [if_neg (by omega), if_neg (by omega)])
    exact ⟨0, rfl, ⟨_, pg, _, hsv, by omega, ⟨st, kd, rt, ow, P, hs, hok⟩, fun _ => hs'.oks hok fun i h2 hi => by unfold upd; rw [if_neg (by omega), if_neg (by omega)]⟩, hn, h1.touch h.kp rfl hg (.inl rfl)⟩
theorem av_state (h : Av w0 w g b gs r N n m) (hm : m + 40 < maxLen) (s : Int) : Calls Tryz.prog 29 #[.pointer (some ⟨g, 0, none⟩), .int .i64 s, .int .i64 2] w fun e w' => ∃ er : Int, e = .returned (.int .i64 er) ∧ Ac w0 w' g b gs r N n (m + 40) er := by
  obtain ⟨M, pg, h1, h2, st, kd, rt, ow, P, hs, hok⟩ := h.ex
  have hl := hs.vol.lo
  have hn := h.hn
  refine (state_good h1 hs.vol.d.k hs.vol.d.ok (by omega) (by omega) s 2).mono ?_
  rintro e w' (⟨-, rfl, hb⟩ | ⟨ht, rfl, hsv, hg⟩)
  · exact ⟨1, rfl, h.err hb (by decide) 40⟩
  · obtain ⟨a, c, d⟩ := (hs.vol.there s).1 ht.1
    have hs' := hs.state (j := (s - 1).toNat) (by omega) d (x := 2) (.inr rfl)
    exact ⟨0, rfl, ⟨_, pg, _, hsv, by omega, ⟨st, kd, rt, ow, P, hs, hok⟩, fun _ => hs'.oks hok fun i h2 hi => upd_ne _ _ (by omega)⟩, hn, h1.touch h.kp rfl hg (.inl rfl)⟩
end
end Go.Proofs.YtelbioooggnbiaaGreat
namespace Go.Proofs.YtelbioooggnbiaaGreat
open Go.RowKit Go.Maps Go.Shelf Go.ChangeShapes Go.WideShapes Go.ChangeAt Go.Deep

/-- A call. -/
structure Ca where
  k : Int
  n : Int
  key : ByteArray
  kv : Value
  keep : List ByteArray
  p : Pg
def Ca.cs (c : Ca) : Array Value := (Value.int .i64 c.k :: Value.int .i64 c.n :: Value.string c.key :: c.kv :: c.p.cs.toList).toArray
structure CaOk (w : World) (c : Ca) : Prop where
  n : -9223372036854775808 ≤ c.n ∧ c.n ≤ 9223372036854775807
  key : c.key.size ≤ maxLen
  row : SRow w c.kv c.keep
theorem CaOk.kept {w w' : World} {c : Ca} (h : CaOk w c) (hb : Below w.heap.size w w') : CaOk w' c := ⟨h.n, h.key, h.row.kept hb⟩
theorem ca_size (c : Ca) : c.cs.size = 20 := rfl
set_option maxRecDepth 100000 in
set_option maxHeartbeats 16000000 in
theorem done_any {w0 w : World} {g b gs r N n m : Nat} (h : Av w0 w g b gs r N n m) (hm : m + 40 < maxLen) (c : Ca) (hc : CaOk w c) :
    Calls Tryz.prog 9 #[.pointer (some ⟨gs, 0, none⟩), .pointer (some ⟨g, 0, none⟩), .agg c.cs, .bool false] w fun e w' => e = .returned (.bool true) ∧ Av w0 w' g b gs r N n (m + 40) := by
  have hb1 := (Below.refl w.heap.size w).alloc (Nat.le_refl _) (.cells c.cs 40)
  have A1 := Lib.hid (h.kept hb1)
  have C1 := Lib.hid (hc.kept hb1)
  have KC := Lib.hid (Bk.new w 40 c.cs)
  have HM := Lib.hid hm
  clear h hc hm hb1
  go_enter Tryz.func9, Tryz.ntmps9
  go_upto_region 1 with fail
  change Code.wp _ _ _ _ (w.alloc (.cells c.cs 40))
  obtain ⟨w1, hw1⟩ : ∃ w1, w1 = w.alloc (.cells c.cs 40) := ⟨_, rfl⟩
  rw [← hw1] at KC A1 C1 ⊢
  obtain ⟨C, hC⟩ : ∃ C, C = w.heap.size := ⟨_, rfl⟩
  rw [← hC] at KC ⊢
  clear hw1 hC
  have x0 : w1.cell? ⟨C, 0, none⟩ = some (.int .i64 c.k) := KC.out.cell 0
  have x1 : w1.cell? ⟨C, 1, none⟩ = some (.int .i64 c.n) := KC.out.cell 1
  have x2 : w1.cell? ⟨C, 2, none⟩ = some (.string c.key) := KC.out.cell 2
  have x3 : w1.cell? ⟨C, 3, none⟩ = some c.kv := KC.out.cell 3
  have CI := Lib.hid (av_insert A1.out HM.out c.key)
  have CD := Lib.hid (av_delete A1.out HM.out c.n C1.out.n)
  have CP := Lib.hid (av_put A1.out HM.out c.key C1.out.key c.kv c.keep C1.out.row)
  have CC := Lib.hid (av_cut A1.out HM.out c.key)
  have CM := Lib.hid (av_make A1.out HM.out c.n)
  have CF := Lib.hid (av_forget A1.out HM.out c.n)
  have CS := Lib.hid (av_state A1.out HM.out c.n)
  have FIN := Lib.hid (show Av w0 w1 g b gs r N n (m + 40) from by
    obtain ⟨M, pg, h1, h2, h3⟩ := A1.out.ex
    exact ⟨⟨M, pg, h1, by omega, h3⟩, A1.out.hn, A1.out.kp⟩)
  generalize c.k = ck at *
  generalize c.n = cn at *
  generalize c.key = key at *
  have KV := Lib.hid (show ∃ a l cap, c.kv = .slice a l cap from by obtain ⟨h1, a, cap, h2, h3⟩ := C1.out.row; exact ⟨a, _, cap, h2⟩)
  generalize c.kv = kv at *
  obtain ⟨ka, kl, kc, rfl⟩ := KV.out
  clear KV A1 C1 KC
  by_cases hk : 0 ≤ ck ∧ ck ≤ 6
  · clear FIN
    go_upto_block 0 with fail
    go_cut [9] (fun s9 wx => ∃ er : Int, s9 = .int .i64 er ∧ Ac w0 wx g b gs r N n (m + 40) er)
    case first =>
      by_cases k0 : ck = 0
      · subst k0
        clear CD CP CC CM CF CS hk
        as_aux_lemma =>
          go_wp2_with fail
          refine CI.out.mono ?_
          rintro e wx ⟨a, u, er, rfl, hx⟩
          have HX := Lib.hid hx
          clear hx CI x0 x1 x2 x3
          go_wp2
          go_meet
          exact ⟨er, rfl, HX.out⟩
      have k0b : (ck == 0) = false := by simp [k0]
      by_cases k1 : ck = 1
      · subst k1
        clear CI CP CC CM CF CS hk k0
        as_aux_lemma =>
          go_wp2_with fail
          refine CD.out.mono ?_
          rintro e wx ⟨u, er, rfl, hx⟩
          have HX := Lib.hid hx
          clear hx CD x0 x1 x2 x3
          go_wp2
          go_meet
          exact ⟨er, rfl, HX.out⟩
      have k1b : (ck == 1) = false := by simp [k1]
      by_cases k2 : ck = 2
      · subst k2
        clear CI CD CC CM CF CS hk k0 k1
        as_aux_lemma =>
          go_wp2_with fail
          refine CP.out.mono ?_
          rintro e wx ⟨u, er, rfl, hx⟩
          have HX := Lib.hid hx
          clear hx CP x0 x1 x2 x3
          go_wp2
          go_meet
          exact ⟨er, rfl, HX.out⟩
      have k2b : (ck == 2) = false := by simp [k2]
      by_cases k3 : ck = 3
      · subst k3
        clear CI CD CP CM CF CS hk k0 k1 k2
        as_aux_lemma =>
          go_wp2_with fail
          refine CC.out.mono ?_
          rintro e wx ⟨u, er, rfl, hx⟩
          have HX := Lib.hid hx
          clear hx CC x0 x1 x2 x3
          go_wp2
          go_meet
          exact ⟨er, rfl, HX.out⟩
      have k3b : (ck == 3) = false := by simp [k3]
      by_cases k4 : ck = 4
      · subst k4
        clear CI CD CP CC CF CS hk k0 k1 k2 k3
        as_aux_lemma =>
          go_wp2_with fail
          refine CM.out.mono ?_
          rintro e wx ⟨a, er, rfl, hx⟩
          have HX := Lib.hid hx
          clear hx CM x0 x1 x2 x3
          go_wp2
          go_meet
          exact ⟨er, rfl, HX.out⟩
      have k4b : (ck == 4) = false := by simp [k4]
      by_cases k5 : ck = 5
      · subst k5
        clear CI CD CP CC CM CS hk k0 k1 k2 k3 k4
        as_aux_lemma =>
          go_wp2_with fail
          refine CF.out.mono ?_
          rintro e wx ⟨er, rfl, hx⟩
          have HX := Lib.hid hx
          clear hx CF x0 x1 x2 x3
          go_wp2
          go_meet
          exact ⟨er, rfl, HX.out⟩
      have k5b : (ck == 5) = false := by simp [k5]
      obtain rfl : ck = 6 := by omega
      clear CI CD CP CC CM CF hk k0 k1 k2 k3 k4 k5
      as_aux_lemma =>
        go_wp2_with fail
        refine CS.out.mono ?_
        rintro e wx ⟨er, rfl, hx⟩
        have HX := Lib.hid hx
        clear hx CS x0 x1 x2 x3
        go_wp2
        go_meet
        exact ⟨er, rfl, HX.out⟩
    case rest =>
      obtain ⟨er, rfl, hx⟩ := hcut
      have HX := Lib.hid hx
      clear hx CI CD CP CC CM CF CS x0 x1 x2 x3 hk
      obtain ⟨M, und, pg, h1, h2, h3, h4⟩ := HX.out.ex
      have S1 := Lib.hid h1; have M2 := Lib.hid h2; have US := Lib.hid h3; have PS := Lib.hid h4
      have HN := Lib.hid HX.out.hn; have KP := Lib.hid HX.out.kp
      clear h1 h2 h3 h4 HX
      by_cases he : er = 0
      · subst he
        have CG := Lib.hid (sv_images S1.out)
        have P0 := Lib.hid (PS.out rfl)
        clear PS
        as_aux_lemma =>
          go_wp2_with fail
          refine CG.out.mono ?_
          rintro e w2 ⟨v, rfl, hl⟩
          have L1 := Lib.hid hl
          obtain ⟨m', ps, l, s1, s2, s3, s4, s5, s6, s7, hbb⟩ := hl
          have V2 := Lib.hid (show SV w2 w0.heap.size g b gs r N M und pg from ⟨m', ps, l, s1, s2, s3, s4, s5, s6⟩)
          have B2 := Lib.hid (below_then KP.out hbb KP.out.size)
          clear s1 s2 s3 s4 s5 s6 s7 hbb CG KP S1 m' ps l
          have CA := Lib.hid (sv_apply L1.out)
          as_aux_lemma =>
            go_wp2_with fail
            refine CA.out.mono ?_
            rintro e w3 ⟨rfl, hs, hg⟩
            have RES := Lib.hid (show Av w0 w3 g b gs r N n (m + 40) from ⟨⟨M, pg, hs, M2.out, P0.out⟩, HN.out, V2.out.touch B2.out rfl hg (.inr rfl)⟩)
            clear hs hg CA L1 V2 B2
            go_wp2
            go_ret
            exact ⟨rfl, RES.out⟩
      · have heb : (er != 0) = true := by simp [he]
        have CD := Lib.hid (sv_drop S1.out)
        as_aux_lemma =>
          go_wp2_with fail
          refine CD.out.mono ?_
          rintro e w3 ⟨rfl, hs, hg⟩
          have RES := Lib.hid (show Av w0 w3 g b gs r N n (m + 40) from ⟨⟨0, und, hs, by omega, US.out⟩, HN.out, S1.out.touch KP.out rfl hg (.inl rfl)⟩)
          clear hs hg CD S1 heb he
          go_wp2
          go_ret
          exact ⟨rfl, RES.out⟩
  · have k0b : (ck == 0) = false := by simp; omega
    have k1b : (ck == 1) = false := by simp; omega
    have k2b : (ck == 2) = false := by simp; omega
    have k3b : (ck == 3) = false := by simp; omega
    have k4b : (ck == 4) = false := by simp; omega
    have k5b : (ck == 5) = false := by simp; omega
    have k6b : (ck == 6) = false := by simp; omega
    clear hk CI CD CP CC CM CF CS
    go_wp2
    go_ret
    exact ⟨rfl, FIN.out⟩
section
variable {H : Type} {enc : TypeId × Value → H} {w : World} {base : Nat} {held : Bool}
/-- A slice whose elements have C cells each. -/
theorem rows_trod {P : Program} {t e : TypeId} {C : Nat} {fuel : Nat} {v : Value} {x : DataW H × List MemPlace} (ht : P.underlying t = some (.slice e)) (hC : P.cellsOf e = C) (h0 : 0 < C)
    (h : DataW.trod enc P w base (fun _ => true) held fuel t [v] = some x) :
    ∃ a len cap, v = .slice a len cap ∧ len ≤ cap ∧ cap ≤ maxLen ∧ SzOf x.1 cap ∧ (a = none → len = 0 ∧ cap = 0) ∧ ∃ L : Nat → List Value, (∀ i, i < len → (L i).length = C ∧ ∃ n y, DataW.trod enc P w base (fun _ => true) held n e (L i) = some y) ∧
      (0 < len → ∃ b off, a = some (⟨b, off, none⟩ : Addr) ∧ b < w.heap.size ∧ ∀ i j u, i < len → (L i)[j]? = some u → w.cell? ⟨b, off + i * C + j, none⟩ = some u) := by
  rcases open_slice ht h with ⟨hcs, rfl⟩ | ⟨y, len, cap, m, n, D, Pl, hcs, hb, hl, hm, hmm, hx, hi⟩
  · simp at hcs
    exact ⟨none, 0, 0, hcs, Nat.le_refl _, Nat.zero_le _, .inl rfl, (fun _ => ⟨rfl, rfl⟩), fun _ => [], fun i hi => absurd hi (Nat.not_lt_zero i), fun h => absurd h (Nat.lt_irrefl 0)⟩
  · simp at hcs
    simp only [if_true] at hmm
    obtain rfl : cap = m := by omega
    have hall : ∀ i, ∃ l : List Value, i < len → l.length = C ∧ (∃ n y, DataW.trod enc P w base (fun _ => true) held n e l = some y) ∧ ∀ j, j < C → w.cell? (y.add (i * C + j)) = l[j]? := by
      intro i
      by_cases hil : i < len
      · have hh := hi i (by omega)
        rw [hC] at hh
        obtain ⟨cs', hc, ht'⟩ := hh
        obtain ⟨_, hcl, hat⟩ := World.cells?_some hc
        exact ⟨cs', fun _ => ⟨hcl, ⟨_, _, ht'⟩, fun j hj => by rw [← add_add]; exact hat j hj⟩⟩
      · exact ⟨[], fun h => absurd h hil⟩
    refine ⟨some y, len, cap, hcs, hl, hm, (.inr ⟨_, _, by rw [hx], by simp; omega⟩), (fun h => by cases h), fun i => (hall i).choose, fun i hil => ⟨((hall i).choose_spec hil).1, ((hall i).choose_spec hil).2.1⟩, fun hlen => ?_⟩
    obtain ⟨b, off, e1, hlt, hc⟩ := mk_at (size := C) (len := len) (f := fun i j => ((hall i).choose)[j]?.getD .nilIface) hlen h0 (fun i j hi' hj => by
      obtain ⟨g1, _, g3⟩ := (hall i).choose_spec hi'
      rw [g3 j hj]
      have : j < (hall i).choose.length := by omega
      rw [List.getElem?_eq_getElem this]
      rfl)
    refine ⟨b, off, e1, hlt, fun i j u hi' hu => ?_⟩
    have hjl := (List.getElem?_eq_some_iff.1 hu).1
    have := hc i j hi' (by rw [((hall i).choose_spec hi').1] at hjl; exact hjl)
    rw [Nat.add_assoc, this, hu]
    rfl
theorem int_in {x : Int} (h : (Lit.int .i64 x).wf = true) : -9223372036854775808 ≤ x ∧ x ≤ 9223372036854775807 := by
  simpa [Lit.wf, IntKind.min, IntKind.max, IntKind.signed, IntKind.bits] using h
theorem len_ex {α : Type} {l : List α} {n : Nat} (h : l.length = n) : ∀ i, i < n → ∃ y, l[i]? = some y := fun i hi => ⟨_, List.getElem?_eq_getElem (by omega)⟩
/-- Keys in a cell that holds a slice. -/
theorem keys_trod {fuel : Nat} {v : Value} {x : DataW H × List MemPlace} (h : DataW.trod enc Tryz.prog w base (fun _ => true) held fuel 33 [v] = some x) :
    ∃ l : List ByteArray, SRow w v l ∧ ∀ k, k ∈ l → k.size ≤ maxLen := by
  obtain ⟨a, len, cap, hve, h1, h2, _, hnil, L, hL, hat⟩ := rows_trod (C := 1) Tryz.underlying33 (by kernel_rfl) (by omega) h
  have hk : ∀ i, ∃ s : ByteArray, i < len → L i = [.string s] ∧ s.size ≤ maxLen := by
    intro i
    by_cases hi : i < len
    · obtain ⟨hlen, n, y, ht⟩ := hL i hi
      match hq : L i, hlen with
      | [u], _ =>
        rw [hq] at ht
        obtain ⟨s, hs, _, hz⟩ := DataW.trod_string Tryz.underlying9 ht
        exact ⟨s, fun _ => ⟨by simpa using hs, hz⟩⟩
    · exact ⟨⟨#[]⟩, fun h => absurd h hi⟩
  have hll : ((List.range len).map fun i => (hk i).choose).length = len := by simp
  refine ⟨(List.range len).map fun i => (hk i).choose, ⟨by rw [hll]; omega, a, cap, by rw [hll]; exact hve, ?_⟩, fun k hkm => ?_⟩
  · rcases Nat.eq_zero_or_pos len with h0 | h0
    · exact .inl (List.eq_nil_of_length_eq_zero (by rw [hll]; exact h0))
    · obtain ⟨b, off, e, hlt, hc⟩ := hat h0
      refine .inr ⟨b, off, e, hlt, fun j hj => ?_⟩
      rw [hll] at hj
      have := hc j 0 (.string (hk j).choose) hj (congrArg (fun l : List Value => l[0]?) ((hk j).choose_spec hj).1)
      rw [Nat.mul_one, Nat.add_zero] at this
      rw [this]
      simp [List.getD_eq_getElem?_getD, hj]
  · obtain ⟨i, hi, rfl⟩ := List.mem_map.1 hkm
    exact ((hk i).choose_spec (List.mem_range.1 hi)).2
theorem page_trod {fuel : Nat} {c0 c1 c2 c3 c4 c5 c6 c7 c8 c9 c10 c11 c12 c13 c14 c15 : Value} {x : DataW H × List MemPlace} (hf : DataW.trod enc Tryz.prog w base (fun _ => true) held fuel 38 [c0, c1, c2, c3, c4, c5, c6, c7, c8, c9, c10, c11, c12, c13, c14, c15] = some x) : ∃ q : Pg, IsPage (.agg #[c0, c1, c2, c3, c4, c5, c6, c7, c8, c9, c10, c11, c12, c13, c14, c15]) q := by
  have cI : Tryz.prog.cellsOf 3 = 1 := by kernel_rfl
  have cC : Tryz.prog.cellsOf 35 = 2 := by kernel_rfl
  have cA : Tryz.prog.cellsOf 36 = 12 := by kernel_rfl
  obtain ⟨xs, n, _, hxd, hpl, hlen, hg⟩ := DataW.trod_struct Tryz.underlying38 hf
  have hx : ∀ i, i < xs.length → ∃ y, xs[i]? = some y := fun i hi => ⟨_, List.getElem?_eq_getElem hi⟩
  have hl5 : xs.length = 5 := hlen
  generalize hL : [c0, c1, c2, c3, c4, c5, c6, c7, c8, c9, c10, c11, c12, c13, c14, c15] = L at hg
  have g0 : DataW.trod enc Tryz.prog w base (fun _ => true) held n 3 (L.drop 0 |>.take (Tryz.prog.cellsOf 3)) = xs[0]? := hg 0 _ rfl
  have g1 : DataW.trod enc Tryz.prog w base (fun _ => true) held n 3 (L.drop 1 |>.take (Tryz.prog.cellsOf 3)) = xs[1]? := hg 1 _ rfl
  have g2 : DataW.trod enc Tryz.prog w base (fun _ => true) held n 3 (L.drop 2 |>.take (Tryz.prog.cellsOf 3)) = xs[2]? := hg 2 _ rfl
  have g3 : DataW.trod enc Tryz.prog w base (fun _ => true) held n 3 (L.drop 3 |>.take (Tryz.prog.cellsOf 3)) = xs[3]? := hg 3 _ rfl
  have g4 : DataW.trod enc Tryz.prog w base (fun _ => true) held n 36 (L.drop 4 |>.take (Tryz.prog.cellsOf 36)) = xs[4]? := hg 4 _ rfl
  subst hL
  rw [cI] at g0 g1 g2 g3
  rw [cA] at g4
  obtain ⟨y0, e0⟩ := hx 0 (by omega)
  obtain ⟨y1, e1⟩ := hx 1 (by omega)
  obtain ⟨y2, e2⟩ := hx 2 (by omega)
  obtain ⟨y3, e3⟩ := hx 3 (by omega)
  obtain ⟨y4, e4⟩ := hx 4 (by omega)
  obtain ⟨n0, hn0, _, z0⟩ := DataW.trod_int Tryz.underlying3 (g0.trans e0)
  obtain ⟨n1, hn1, _, z1⟩ := DataW.trod_int Tryz.underlying3 (g1.trans e1)
  obtain ⟨n2, hn2, _, z2⟩ := DataW.trod_int Tryz.underlying3 (g2.trans e2)
  obtain ⟨n3, hn3, _, z3⟩ := DataW.trod_int Tryz.underlying3 (g3.trans e3)
  obtain ⟨ys, m, _, _, _, hyl, hy⟩ := DataW.trod_array Tryz.underlying36 (g4.trans e4)
  rw [cC] at hy
  have hyx : ∀ i, i < 6 → ∃ y, ys[i]? = some y := fun i hi => ⟨_, List.getElem?_eq_getElem (by omega)⟩
  obtain ⟨u0, f0⟩ := hyx 0 (by omega)
  obtain ⟨u1, f1⟩ := hyx 1 (by omega)
  obtain ⟨u2, f2⟩ := hyx 2 (by omega)
  obtain ⟨u3, f3⟩ := hyx 3 (by omega)
  obtain ⟨u4, f4⟩ := hyx 4 (by omega)
  obtain ⟨u5, f5⟩ := hyx 5 (by omega)
  obtain ⟨k0, a0, b0, m0, s0⟩ := cell_trod (a := c4) (b := c5) ((hy 0 (by omega)).trans f0)
  obtain ⟨k1, a1, b1, m1, s1⟩ := cell_trod (a := c6) (b := c7) ((hy 1 (by omega)).trans f1)
  obtain ⟨k2, a2, b2, m2, s2⟩ := cell_trod (a := c8) (b := c9) ((hy 2 (by omega)).trans f2)
  obtain ⟨k3, a3, b3, m3, s3⟩ := cell_trod (a := c10) (b := c11) ((hy 3 (by omega)).trans f3)
  obtain ⟨k4, a4, b4, m4, s4⟩ := cell_trod (a := c12) (b := c13) ((hy 4 (by omega)).trans f4)
  obtain ⟨k5, a5, b5, m5, s5⟩ := cell_trod (a := c14) (b := c15) ((hy 5 (by omega)).trans f5)
  have hi : ∀ {x : Int}, (Lit.int .i64 x).wf = true → -9223372036854775808 ≤ x ∧ x ≤ 9223372036854775807 := fun h => by simpa [Lit.wf, IntKind.min, IntKind.max, IntKind.signed, IntKind.bits] using h
  simp at hn0 hn1 hn2 hn3
  subst hn0 hn1 hn2 hn3 a0 b0 a1 b1 a2 b2 a3 b3 a4 b4 a5 b5
  refine ⟨⟨n0, n1, n2, n3, fun i => if i = 0 then k0 else if i = 1 then k1 else if i = 2 then k2 else if i = 3 then k3 else if i = 4 then k4 else k5⟩, rfl, ⟨hi z0, hi z1, hi z2, hi z3⟩, fun i hi6 => ?_⟩
  rcases six hi6 with rfl | rfl | rfl | rfl | rfl | rfl
  · exact ⟨m0, s0⟩
  · exact ⟨m1, s1⟩
  · exact ⟨m2, s2⟩
  · exact ⟨m3, s3⟩
  · exact ⟨m4, s4⟩
  · exact ⟨m5, s5⟩
set_option maxRecDepth 100000 in
theorem ca_trod {n : Nat} {l : List Value} {x : DataW H × List MemPlace} (hlen : l.length = 20) (h : DataW.trod enc Tryz.prog w base (fun _ => true) held n 40 l = some x) :
    ∃ m : Ca, l = m.cs.toList ∧ CaOk w m := by
  have cI : Tryz.prog.cellsOf 3 = 1 := by kernel_rfl
  have cS : Tryz.prog.cellsOf 9 = 1 := by kernel_rfl
  have cK : Tryz.prog.cellsOf 33 = 1 := by kernel_rfl
  have cP : Tryz.prog.cellsOf 38 = 16 := by kernel_rfl
  obtain ⟨xs, m, _, _, _, hl, hg⟩ := DataW.trod_struct Tryz.underlying40 h
  match l, hlen with
  | [d0, d1, d2, d3, c0, c1, c2, c3, c4, c5, c6, c7, c8, c9, c10, c11, c12, c13, c14, c15], _ =>
    have hl2 : xs.length = 5 := hl
    generalize hL : [d0, d1, d2, d3, c0, c1, c2, c3, c4, c5, c6, c7, c8, c9, c10, c11, c12, c13, c14, c15] = L at hg
    have g0 : DataW.trod enc Tryz.prog w base (fun _ => true) held m 3 (L.drop 0 |>.take (Tryz.prog.cellsOf 3)) = xs[0]? := hg 0 _ rfl
    have g1 : DataW.trod enc Tryz.prog w base (fun _ => true) held m 3 (L.drop 1 |>.take (Tryz.prog.cellsOf 3)) = xs[1]? := hg 1 _ rfl
    have g2 : DataW.trod enc Tryz.prog w base (fun _ => true) held m 9 (L.drop 2 |>.take (Tryz.prog.cellsOf 9)) = xs[2]? := hg 2 _ rfl
    have g3 : DataW.trod enc Tryz.prog w base (fun _ => true) held m 33 (L.drop 3 |>.take (Tryz.prog.cellsOf 33)) = xs[3]? := hg 3 _ rfl
    have g4 : DataW.trod enc Tryz.prog w base (fun _ => true) held m 38 (L.drop 4 |>.take (Tryz.prog.cellsOf 38)) = xs[4]? := hg 4 _ rfl
    subst hL
    rw [cI] at g0 g1
    rw [cS] at g2
    rw [cK] at g3
    rw [cP] at g4
    obtain ⟨y0, e0⟩ := len_ex hl2 0 (by omega)
    obtain ⟨y1, e1⟩ := len_ex hl2 1 (by omega)
    obtain ⟨y2, e2⟩ := len_ex hl2 2 (by omega)
    obtain ⟨y3, e3⟩ := len_ex hl2 3 (by omega)
    obtain ⟨y4, e4⟩ := len_ex hl2 4 (by omega)
    obtain ⟨n0, hn0, _, z0⟩ := DataW.trod_int Tryz.underlying3 (g0.trans e0)
    obtain ⟨n1, hn1, _, z1⟩ := DataW.trod_int Tryz.underlying3 (g1.trans e1)
    obtain ⟨s2, hs2, _, z2⟩ := DataW.trod_string Tryz.underlying9 (g2.trans e2)
    obtain ⟨ks, hks, -⟩ := keys_trod (v := d3) (g3.trans e3)
    obtain ⟨q, hq⟩ := page_trod (g4.trans e4)
    have hval := hq.val
    unfold Pg.v Pg.cs at hval
    simp only [Value.agg.injEq, Array.mk.injEq, List.cons.injEq] at hval
    obtain ⟨r0, r1, r2, r3, r4, r5, r6, r7, r8, r9, r10, r11, r12, r13, r14, r15, _⟩ := hval
    simp at hn0 hn1 hs2
    subst hn0 hn1 hs2 r0 r1 r2 r3 r4 r5 r6 r7 r8 r9 r10 r11 r12 r13 r14 r15
    exact ⟨⟨n0, n1, s2, d3, ks, q⟩, rfl, int_in z1, z2, hks⟩
/-- Calls in a slice that came in. -/
structure CasIn (w : World) (v : Value) (l : List Ca) : Prop where
  at_ : ∃ a c, v = .slice a l.length c ∧ (0 < l.length → ∃ b off, a = some (⟨b, off, none⟩ : Addr) ∧ b < w.heap.size ∧ ∀ i p, l[i]? = some p → w.rangeAt b (off + i * 20) p.cs.toList)
  len : l.length ≤ maxLen
  bd : ∀ i ∈ l, CaOk w i
def Ca.zero : Ca := ⟨0, 0, ⟨#[]⟩, .slice none 0 0, [], Pg.zero⟩
set_option maxRecDepth 100000 in
theorem read_cas {r : Reach} {b0 : Nat} {d : DataW H} {p : List MemPlace} {v : Value}
    (hv : Value.okWide Tryz.prog w r b0 22 v) (h : DataW.Trod enc Tryz.prog w base (fun _ => true) held 22 v d p) : ∃ l : List Ca, CasIn w v l := by
  obtain ⟨fuel, hf⟩ := h
  obtain ⟨a0, len0, cap0, rfl⟩ := okWide_slice Tryz.underlying22 hv
  have hf' : DataW.trod enc Tryz.prog w base (fun _ => true) held fuel 22 [.slice a0 len0 cap0] = some (d, p) := hf
  obtain ⟨a, len, cap, hve, h1, h2, _, _, L, hL, hat⟩ := rows_trod (C := 20) Tryz.underlying22 (by kernel_rfl) (by omega) hf'
  rw [hve]
  have him : ∀ i, ∃ mm : Ca, i < len → L i = mm.cs.toList ∧ CaOk w mm := by
    intro i
    by_cases hi : i < len
    · obtain ⟨hlen, n, y, ht⟩ := hL i hi
      obtain ⟨mm, h1⟩ := ca_trod hlen ht
      exact ⟨mm, fun _ => h1⟩
    · exact ⟨Ca.zero, fun h => absurd h hi⟩
  have hll : ((List.range len).map fun i => (him i).choose).length = len := by simp
  refine ⟨(List.range len).map fun i => (him i).choose, ⟨a, cap, by rw [hll], fun h0 => ?_⟩, by rw [hll]; omega, fun i hi => ?_⟩
  · rw [hll] at h0
    obtain ⟨b, off, e1, hlt, hc⟩ := hat h0
    refine ⟨b, off, e1, hlt, fun i p hi j u hu => ?_⟩
    have hil : i < len := by have := (List.getElem?_eq_some_iff.1 hi).1; rwa [hll] at this
    rw [List.getElem?_map, List.getElem?_range hil] at hi
    simp at hi
    subst hi
    exact hc i j u hil (by rw [((him i).choose_spec hil).1]; exact hu)
  · obtain ⟨k, hk, rfl⟩ := List.mem_map.1 hi
    exact ((him k).choose_spec (List.mem_range.1 hk)).2
end
theorem CasIn.kept {w w' : World} {v : Value} {l : List Ca} (h : CasIn w v l) (hb : Below w.heap.size w w') : CasIn w' v l := by
  obtain ⟨a, c, e, h1⟩ := h.at_
  refine ⟨⟨a, c, e, fun hm => ?_⟩, h.len, fun i hi => (h.bd i hi).kept hb⟩
  obtain ⟨b, off, e1, hlt, hc⟩ := h1 hm
  exact ⟨b, off, e1, Nat.lt_of_lt_of_le hlt hb.size, fun i p hi j u hu => (hb.cell (p := ⟨b, off + i * 20 + j, none⟩) hlt).trans (hc i p hi j u hu)⟩
section
variable {ops : Array Oper} {rest : List Oper} {o : Oper} {a : Act} {w : World} {Q : Exit → Act → World → Prop}
theorem load_ca_off (hgd : o.guard = none) (x : Operand) (ho : o.op = .load 40 x) (g off : Nat) (i : Nat) (p : Ca) (hx : a.eval x = .pointer (some ⟨g, off + i * 20, none⟩)) (hr : w.rangeAt g (off + i * 20) p.cs.toList)
    (h : wpList Tryz.prog ops Q rest (a.put o.dst (.agg p.cs)) w) : wpList Tryz.prog ops Q (o :: rest) a w :=
  wpList_load_mid hgd 40 x ho g (off + i * 20) hx p.cs.toList _ hr Tryz.underlying40 rfl (by rw [show p.cs.toList.length = 20 from rfl]; kernel_rfl) (by simpa using h)
theorem load_ca (hgd : o.guard = none) (x : Operand) (ho : o.op = .load 40 x) (g : Nat) (p : Ca) (hx : a.eval x = .pointer (some ⟨g, 0, none⟩)) (hb : Bk w g 40 p.cs)
    (h : wpList Tryz.prog ops Q rest (a.put o.dst (.agg p.cs)) w) : wpList Tryz.prog ops Q (o :: rest) a w :=
  wpList_load_row hgd 40 x ho g hx 40 p.cs (0, 0) _ hb Tryz.underlying40 rfl (by rw [show p.cs.size = 20 from rfl]; kernel_rfl) h
theorem store_ca_new (hgd : o.guard = none) (x y : Operand) (ho : o.op = .store 40 x y) (i : Ca) (hi : ∃ a m cap, i.kv = .slice a m cap)
    (hx : a.eval x = .pointer (some ⟨w.heap.size, 0, none⟩)) (hy : a.eval y = .agg i.cs) (h : wpList Tryz.prog ops Q rest (a.put o.dst undef) (w.alloc (.cells i.cs 40))) : wpList Tryz.prog ops Q (o :: rest) a (w.alloc (.cells Ca.zero.cs 40)) := by
  obtain ⟨ka, km, kc, hk⟩ := hi
  refine wpList_store_row hgd 40 x y ho w.heap.size i.cs hx hy 40 Ca.zero.cs (Bk.new _ _ _) (by rw [show i.cs.size = 20 from rfl]; kernel_rfl) rfl (by simp [Ca.cs, Pg.cs, Value.oneCell', hk]) ?_
  rw [World.setRow_alloc_new]
  exact h
end
theorem CaOk.sl {w : World} {c : Ca} (h : CaOk w c) : ∃ a m cap, c.kv = .slice a m cap := by
  obtain ⟨-, a, cap, e, -⟩ := h.row
  exact ⟨a, _, cap, e⟩
end Go.Proofs.YtelbioooggnbiaaGreat
namespace Go.Proofs.YtelbioooggnbiaaGreat
open Go.RowKit Go.Maps Go.Shelf

theorem v3_snd (n : Nat) (h1 : 4 ≤ n) (h2 : n ≤ 1024) : VS n n (v3 n) := by
  have s1 : Snd (v1 n) n (fun _ => 0) (fun _ => 0) (fun _ => 0) ow0 (fun _ => []) := by
    refine Snd.of (vol_new _ n h1 h2) (fun j hj hs => absurd rfl hs) fun i hi ho => ?_
    unfold ow0 at ho
    by_cases h : i < 2
    · exact .inl h
    · rw [if_neg h] at ho; cases ho
  have s2 : Snd (v2 n) n _ _ _ _ _ := s1.make (j := 0) (id := 2) (by omega) rfl (by omega) (by omega) rfl (kind := 1) (by decide)
  have s3 : Snd (v3 n) n _ _ _ _ _ := s2.make (j := 1) (id := 3) (by omega) rfl (by omega) (by omega) rfl (kind := 2) (by decide)
  exact ⟨_, _, _, _, _, s3, (v3_flat n n h1 h2).1.ok⟩
set_option maxRecDepth 100000 in
set_option maxHeartbeats 4000000 in
theorem volume_bad (n : Int) (w : World) (h : n < 4) : Calls Tryz.prog 6 #[.int .i64 n] w fun e w' => e = .returned (.tuple #[.pointer none, .pointer none, .bool false]) ∧ Below w.heap.size w w' := by
  by_cases h1 : 1 ≤ n
  · obtain ⟨k, rfl⟩ : ∃ k : Nat, n = k := ⟨n.toNat, by omega⟩
    have CM := Lib.hid (memory_good k w (by omega) (by omega))
    have CF := Lib.hid (fun g w => format_bad (g := g) (k : Int) w (by omega))
    clear h h1
    go_enter Tryz.func6, Tryz.ntmps6
    go_wp2_with fail
    refine CM.out.mono ?_
    rintro e w1 ⟨gs, r, rfl, hS, hb⟩
    have B1 := Lib.hid hb
    have CN := Lib.hid (ss_new hS hb.size)
    clear hS hb CM
    go_wp2_with fail
    refine CN.out.mono ?_
    rintro e w2 ⟨g, b, rfl, hs, hb, -, -⟩
    have B2 := Lib.hid (below_then B1.out hb B1.out.size)
    clear hs hb CN B1
    as_aux_lemma =>
      go_wp2_with fail
      refine (CF.out _ _).mono ?_
      rintro e w3 ⟨rfl, rfl⟩
      clear CF
      go_wp2
      refine bodyPost_ret (v := .tuple #[.pointer none, .pointer none, .bool false]) (by simp [results, Tryz.results6, go_sem]) rfl ?_
      exact ⟨rfl, B2.out⟩
  · have CM := Lib.hid (memory_no n w (by omega))
    have CN := Lib.hid (fun w => stnew_any 24 (.pointer none) w)
    clear h h1
    go_enter Tryz.func6, Tryz.ntmps6
    go_wp2_with fail
    refine CM.out.mono ?_
    rintro e w1 ⟨rfl, rfl⟩
    clear CM
    go_wp2_with fail
    refine (CN.out _).mono ?_
    rintro e w2 ⟨g, b, rfl, -, hb⟩
    have B2 := Lib.hid hb
    clear hb CN
    go_wp2
    refine bodyPost_ret (v := .tuple #[.pointer none, .pointer none, .bool false]) (by simp [results, Tryz.results6, go_sem]) rfl ?_
    exact ⟨rfl, B2.out⟩
/-- A new stage over the shelf: all hangs together. -/
theorem av_new {w0 w : World} {g b gs r N n m : Nat} (h : Av w0 w g b gs r N n m) : Calls Tryz.prog 11 #[.iface 24 (.pointer (some ⟨gs, 0, none⟩))] w fun e w' => ∃ g2, e = .returned (.pointer (some ⟨g2, 0, none⟩)) ∧ Av w0 w' g b gs r N n m ∧
      Calls Tryz.prog 10 #[.pointer (some ⟨g2, 0, none⟩)] w' fun e w'' => e = .returned (.int .i64 0) ∧ Below w'.heap.size w' w'' := by
  obtain ⟨M, pg, h1, h2, st, kd, rt, ow, P, hs, hok⟩ := h.ex
  obtain ⟨m', ps, l, a1, a2, a3, a4, a5, a6⟩ := h1.ex
  refine (ss_new a1.sh h.kp.size).mono ?_
  rintro e w' ⟨g2, b2, rfl, hS, hb, -, -⟩
  refine ⟨g2, rfl, h.kept hb, ?_⟩
  have hv := sv_made (und := pg) hS fun id hid => a5 id (by omega)
  rw [a3] at hv
  refine (check_vol hv hok hs.vol h.hn).mono ?_
  rintro e w'' ⟨er, rfl, he, -, hb2⟩
  rw [he.2 (hs.fine h.hn)]
  exact ⟨rfl, hb2⟩
set_option maxRecDepth 100000 in
set_option maxHeartbeats 16000000 in
theorem walk_AuditSound (pgs : Int) (v : Value) (l : List Ca) (w : World) (hp1 : -9223372036854775808 ≤ pgs) (hp2 : pgs ≤ 9223372036854775807) (hq : CasIn w v l) :
    Calls Tryz.prog 3 #[.int .i64 pgs, v] w fun e w' => e = .returned (.bool true) ∧ Below w.heap.size w w' := by
  obtain ⟨a, c, rfl, hat⟩ := hq.at_
  have hq : CasIn w (.slice a l.length c) l := ⟨⟨a, c, rfl, hat⟩, hq.len, hq.bd⟩
  have CQ := Lib.hid hq
  obtain ⟨len, hlen⟩ : ∃ len, len = l.length := ⟨_, rfl⟩
  have LN := Lib.hid hlen
  rw [← hlen] at CQ ⊢
  clear hat hq hlen
  have CA := Lib.hid (awake22 w)
  go_enter Tryz.func3, Tryz.ntmps3
  go_wp2_with fail
  refine CA.out.mono ?_
  rintro e w1 ⟨rfl, hb⟩
  have B1 := Lib.hid hb
  have Q1 := Lib.hid (CQ.out.kept hb)
  clear hb CA CQ
  by_cases h100 : 100 < pgs
  · clear LN Q1
    go_wp2
    go_ret
    exact ⟨rfl, B1.out⟩
  by_cases h200 : 200 < len
  · have h2i : (200 : Int) < (len : Int) := by omega
    have h2d : decide (200 < len) = true := decide_eq_true h200
    clear LN Q1
    go_wp2
    go_ret
    exact ⟨rfl, B1.out⟩
  have h2i : ¬ (200 : Int) < (len : Int) := by omega
  have h2d : decide (200 < len) = false := decide_eq_false h200
  have L200 := Lib.hid h200
  by_cases h4 : pgs < 4
  · have CV := Lib.hid (volume_bad pgs w1 h4)
    clear LN Q1 h4
    as_aux_lemma =>
      go_wp2_with fail
      refine CV.out.mono ?_
      rintro e w2 ⟨rfl, hb⟩
      have B2 := Lib.hid (below_then B1.out hb B1.out.size)
      clear hb CV B1
      go_wp2
      go_ret
      exact ⟨rfl, B2.out⟩
  obtain ⟨n, rfl⟩ : ∃ n : Nat, pgs = n := ⟨pgs.toNat, by omega⟩
  have N4 := Lib.hid (show 4 ≤ n ∧ n ≤ 100 by omega)
  have CV := Lib.hid (volume22 n w1 (by omega) (by omega))
  clear h4
  as_aux_lemma =>
    go_wp2_with fail
    refine CV.out.mono ?_
    rintro e w2 ⟨g, b, gs, r, rfl, hs, hb⟩
    have S2 := Lib.hid hs
    have B2 := Lib.hid hb
    clear hs hb CV h100 h200 h2i h2d
    have CG := Lib.hid (sv_images S2.out)
    as_aux_lemma =>
      go_wp2_with fail
      refine CG.out.mono ?_
      rintro e w3 ⟨v, rfl, hl⟩
      have L1 := Lib.hid hl
      obtain ⟨m', ps, ll, s1, s2, s3, s4, s5, s6, s7, hbb⟩ := hl
      have V3 := Lib.hid (show SV w3 w1.heap.size g b gs r n 8 (fun _ => Pg.zero) (v3 n) from ⟨m', ps, ll, s1, s2, s3, s4, s5, s6⟩)
      have B3 := Lib.hid (below_then B2.out hbb B2.out.size)
      clear s1 s2 s3 s4 s5 s6 s7 hbb CG B2 S2 m' ps ll
      have CP := Lib.hid (sv_apply L1.out)
      as_aux_lemma =>
        go_wp2_with fail
        refine CP.out.mono ?_
        rintro e w4 ⟨rfl, hs, hg⟩
        have A4 := Lib.hid (show Av w1 w4 g b gs r n n (8 + 40 * 0) from ⟨⟨8, v3 n, hs, by omega, v3_snd n (by have := N4.out; omega) (by have := N4.out; omega)⟩, Nat.le_refl _, V3.out.touch B3.out rfl hg (.inr rfl)⟩)
        clear hs hg CP L1 V3 B3
        as_aux_lemma =>
          go_wp2_with fail
          go_loopw [39] (fun i wr => ∃ k : Nat, k ≤ len ∧ i = .int .i64 k ∧ Av w1 wr g b gs r n n (8 + 40 * k)) (fun i _ => len - (intOf i).toNat)
          case atStart => exact ⟨0, Nat.zero_le _, rfl, A4.out⟩
          case round =>
            obtain ⟨k, hk, rfl, ha⟩ := hrel
            have AR := Lib.hid ha
            clear ha A4
            by_cases hlt : k < len
            · have HLT := Lib.hid hlt
              have kb : k < 9223372036854775807 := by have := L200.out; omega
              have KI := Lib.hid kb
              have HW := AR.out.kp
              have hkl : k < l.length := by rw [← LN.out]; exact hlt
              obtain ⟨cc, hcc⟩ : ∃ cc, cc = l[k] := ⟨_, rfl⟩
              have OK := Lib.hid (show CaOk wr cc from ((Q1.out.kept HW).bd cc (by rw [hcc]; exact List.getElem_mem hkl)))
              obtain ⟨a', c', e1, hat⟩ := (Q1.out.kept HW).at_
              obtain ⟨b1, off, e2, hb1, hra⟩ := hat (by omega)
              rw [← LN.out] at e1
              obtain ⟨rfl, rfl⟩ : a = some ⟨b1, off, none⟩ ∧ c = c' := by rw [e2] at e1; simpa using e1
              have RK := Lib.hid (hra k cc (by rw [hcc]; exact List.getElem?_eq_getElem hkl))
              have hbk := (Below.refl wr.heap.size wr).alloc (Nat.le_refl _) (.cells cc.cs 40)
              have A5 := Lib.hid (AR.out.kept hbk)
              have K5 := Lib.hid (Bk.new wr 40 cc.cs)
              have O5 := Lib.hid (OK.out.kept hbk)
              clear e1 hat e2 hb1 hra hcc hkl HW AR hbk Q1
              as_aux_lemma =>
                go_upto_region 13 with (first | (refine load_ca_off rfl _ rfl b1 off k cc rfl RK.out ?_) | (refine store_ca_new rfl _ _ rfl cc OK.out.sl rfl rfl ?_))
                generalize wr.alloc (.cells cc.cs 40) = w5 at *
                obtain ⟨G, hG⟩ : ∃ G, G = wr.heap.size := ⟨_, rfl⟩
                rw [← hG] at K5 ⊢
                clear hG RK OK
                have CD := Lib.hid (done_any A5.out (by have := HLT.out; have := L200.out; unfold maxLen; omega) cc O5.out)
                as_aux_lemma =>
                  go_wp2_with (refine load_ca rfl _ rfl G cc rfl K5.out ?_)
                  refine CD.out.mono ?_
                  rintro e w6 ⟨rfl, ha⟩
                  have A6 := Lib.hid (show Av w1 w6 g b gs r n n (8 + 40 * (k + 1)) from ha)
                  clear ha CD A5 K5 O5
                  have CN := Lib.hid (av_new A6.out)
                  as_aux_lemma =>
                    go_wp2_with fail
                    refine CN.out.mono ?_
                    rintro e w7 ⟨g2, rfl, ha, hck⟩
                    have A7 := Lib.hid ha; have CK := Lib.hid hck
                    clear ha hck CN A6
                    go_wp2_with fail
                    refine CK.out.mono ?_
                    rintro e w8 ⟨rfl, hb⟩
                    have A8 := Lib.hid (A7.out.kept hb)
                    clear hb CK A7
                    go_wp2
                    go_roundw
                    case rel => exact ⟨k + 1, by have := HLT.out; omega, by go_num, A8.out⟩
                    case measure => have := HLT.out; simp [intOf]; omega
            · have hnb : ¬ (k : Int) < (len : Int) := by omega
              clear hlt hk
              have BW := Lib.hid (below_then B1.out AR.out.kp B1.out.size)
              clear AR
              go_wp2
              go_ret
              exact ⟨rfl, BW.out⟩
end Go.Proofs.YtelbioooggnbiaaGreat
namespace Go.Proofs.YtelbioooggnbiaaGreat
open Go.RowKit

section
variable {pg pg' : Nat → Pg} {N n x : Nat} {sn : Int}
theorem reach_num (hb : (pg' x).s ≠ sn) (s : LkS) : reachF pg' N sn s (x : Int) = none := by
  unfold reachF
  split
  · rfl
  · rw [if_neg (fun h => hb (by have := h.2; rwa [Int.toNat_natCast] at this))]
theorem node_num (hs : ∀ i, i ≠ x → pg' i = pg i) (hb : (pg' x).s ≠ sn) {h id : Nat} {a b : Option ByteArray} {lf ids : List Nat} {R : List (ByteArray × Ce)} (t : Tr kL (NN pg) h id a b lf ids R) :
    x ∈ ids → x ≠ id → ∀ (s : LkS) (sp : Spn), nodeF pg' N sn h id s sp = none := by
  induction t with
  | leaf => intro hx hne; exact absurd (by simpa using hx) hne
  | @inner h id a b lf ids rs h0 hn h1 h2 hk ih =>
    intro hx hne s sp
    have lid : (pg id).l = ((h + 1 : Nat) : Int) := by
      have : (pg id).l.toNat = h + 1 := h0
      omega
    rw [nodeF, hs id (Ne.symm hne)]
    by_cases hok : nodeOk (pg id)
    · rw [if_pos hok, if_pos (by omega)]
      obtain ⟨q, hq, hxq⟩ := flat_mem.1 ((List.mem_cons.1 hx).resolve_left hne)
      refine fold_none (q := q) hq (fun u => ?_) s
      unfold kidF
      by_cases g1 : sp.holds (below (pg id) sp q).lo = true
      · rw [if_pos g1]
        by_cases e : x = ((pg id).c q).child
        · rw [← e, reach_num hb]; rfl
        · cases g2 : reachF pg' N sn u (((pg id).c q).child : Int) with
          | none => rfl
          | some u' =>
            rw [Option.bind_some]
            by_cases g3 : (pg' ((pg id).c q).child).l = (pg id).l - 1
            · rw [if_pos g3]
              exact ih q hq hxq e u' _
            · rw [if_neg g3]
      · rw [if_neg g1]
    · rw [if_neg hok]
theorem tree_num (hs : ∀ i, i ≠ x → pg' i = pg i) (hb : (pg' x).s ≠ sn) {h rt : Nat} {lf ids : List Nat} {R : List (ByteArray × Ce)} (t : Tr kL (NN pg) h rt none none lf ids R) (hx : x ∈ ids) (s : LkS) : treeF pg' N sn s rt = none := by
  unfold treeF
  by_cases e : x = rt
  · rw [← e, reach_num hb]; rfl
  · cases g2 : reachF pg' N sn s (rt : Int) with
    | none => rfl
    | some u =>
      have lr : (pg' rt).l.toNat = h := by rw [hs rt (Ne.symm e)]; exact t.self.2
      rw [Option.bind_some, lr, node_num (N := N) hs hb t hx e]
      rfl
theorem chain_num (hs : ∀ i, i ≠ x → pg' i = pg i) (hb : (pg' x).s ≠ sn) : ∀ (ch : List Nat) (f : Nat) (s : LkS), Chn (fun i => (pg i).n.toNat) ch → (∀ i, i ∈ ch → 2 ≤ i ∧ 0 ≤ (pg i).n) → x ∈ ch → ∀ c l, ch = c :: l → chainF pg' N sn f s (c : Int) = none
  | [], _, _, _, _, _, _, _, e => by cases e
  | y :: ch, 0, _, _, _, _, _, _, _ => rfl
  | y :: ch, f + 1, s, hc, hp, hx, c, l, e => by
    injection e with e1 e2
    subst e1
    rw [chainF]
    by_cases exy : x = y
    · rw [← exy, reach_num hb]; rfl
    · cases g : reachF pg' N sn s (y : Int) with
      | none => rfl
      | some s' =>
        rw [Option.bind_some, Int.toNat_natCast, hs y (Ne.symm exy)]
        by_cases hh : heapPage (pg y)
        · rw [if_pos hh]
          cases ch with
          | nil => simp at hx; exact absurd hx exy
          | cons z ch =>
            have h1 : (pg y).n.toNat = z := hc.next
            have pz := hp z (by simp)
            have py := hp y (by simp)
            rw [if_neg (by omega)]
            have e : (pg y).n = (z : Int) := by omega
            rw [e]
            exact chain_num hs hb (z :: ch) f s' hc.tail (fun i hi => hp i (List.mem_cons_of_mem _ hi)) ((List.mem_cons.1 hx).resolve_left exy) z ch rfl
        · rw [if_neg hh]
variable {st : Nat → Int} {kd rt : Nat → Nat} {ow : Nat → Option Int} {P : Nat → List Nat}
/-- A page of a store has another number. -/
theorem Snd.num (h : Snd pg n st kd rt ow P) {j : Nat} (hj : j < 6) (hs : st j ≠ 0) (hx : x ∈ P j) (he : ∀ i, i ≠ x → pg' i = pg i) (hb : (pg' x).s ≠ (j : Int) + 1) : storesF pg' N st kd rt = none := by
  refine fold_none (q := j) hj (fun u => ?_) _
  unfold storeF
  rw [if_neg hs]
  by_cases hk : kd j = 1
  · rw [if_pos hk]
    obtain ⟨h1, ⟨l, h2⟩, h3, h4⟩ := h.heap j hj hs hk
    exact chain_num he hb (P j) _ _ h3 (fun i hi => by
      have p := h4 i hi
      have := p.ok.1
      unfold Pg.head at this
      exact ⟨p.two, by omega⟩) hx _ _ h2
  · rw [if_neg hk]
    obtain ⟨H, lf, R, ix⟩ := h.tree j hj hs hk
    exact tree_num he hb ix.tr hx _
/-- Stores that hang together, whoever the pages are said to belong to. -/
structure Sto (pg : Nat → Pg) (n : Nat) (st : Nat → Int) (kd rt : Nat → Nat) (ow : Nat → Option Int) (P : Nat → List Nat) : Prop where
  lo : 4 ≤ n ∧ n ≤ 1024
  s : ∀ j, j < 6 → st j ≠ 0 → StoreOk pg n (kd j) (rt j) ow j (P j)
theorem Snd.toSto (h : Snd pg n st kd rt ow P) : Sto pg n st kd rt ow P := ⟨h.vol.lo, fun j hj hs => h.sto hj hs⟩
theorem Sto.frame (h : Sto pg n st kd rt ow P) (hp : ∀ i, 2 ≤ i → pg' i = pg i) : Sto pg' n st kd rt ow P := ⟨h.lo, fun j hj hs => (h.s j hj hs).frame (fun i hi => hp i (by
  by_cases hk : kd j = 1
  · exact (((h.s j hj hs).1 hk).2.2.2 i hi).two
  · obtain ⟨H, lf, R, ix⟩ := (h.s j hj hs).2 hk
    exact (ix.pgs i hi).two)) fun i hi => rfl⟩
theorem Sto.pgs (h : Sto pg n st kd rt ow P) {j : Nat} (hj : j < 6) (hs : st j ≠ 0) {i : Nat} (hi : i ∈ P j) : 2 ≤ i ∧ i < n ∧ ow i = some ((j : Int) + 1) := by
  by_cases hk : kd j = 1
  · have := ((h.s j hj hs).1 hk).2.2.2 i hi
    exact ⟨this.two, this.lt, this.ow⟩
  · obtain ⟨H, lf, R, ix⟩ := (h.s j hj hs).2 hk
    have := ix.pgs i hi
    exact ⟨this.two, this.lt, this.ow⟩
theorem Sto.pnd (h : Sto pg n st kd rt ow P) {j : Nat} (hj : j < 6) (hs : st j ≠ 0) : (P j).Nodup := by
  by_cases hk : kd j = 1
  · exact ((h.s j hj hs).1 hk).1
  · obtain ⟨H, lf, R, ix⟩ := (h.s j hj hs).2 hk
    exact ix.nd
theorem Sto.new (h : Sto pg n st kd rt ow P) {j : Nat} (hj : j < 6) (hs : st j ≠ 0) {i : Nat} (hi : i ∈ P j) : (i : Int) ∉ reS st P j := fun hm => by
  have a := h.pgs hj hs hi
  rcases reS_mem.1 hm with h1 | h1 | ⟨q, h1, h2, h3⟩
  · omega
  · omega
  · obtain ⟨i', e, h4⟩ := zs_ex h3
    obtain rfl : i = i' := Int.ofNat.inj e
    have b := (h.pgs (by omega) h2 h4).2.2
    rw [a.2.2] at b
    have := Option.some.inj b
    omega
theorem Sto.nodup (h : Sto pg n st kd rt ow P) : ∀ j, j ≤ 6 → (reS st P j).Nodup
  | 0, _ => by unfold reS; decide
  | j + 1, hj => by
    rw [reS]
    by_cases hs : st j = 0
    · rw [if_pos hs]; exact h.nodup j (by omega)
    · rw [if_neg hs, List.nodup_append]
      refine ⟨?_, h.nodup j (by omega), fun x hx y hy e => ?_⟩
      · unfold zs
        rw [← List.map_reverse]
        refine List.Pairwise.map _ (fun (a b : Nat) (hab : b ≠ a) (e : (a : Int) = (b : Int)) => hab (Int.ofNat.inj e).symm) (List.pairwise_reverse.2 ?_)
        exact (h.pnd (by omega) hs).imp fun h => h
      · subst e
        obtain ⟨i, rfl, hi⟩ := zs_ex (List.mem_reverse.1 hx)
        exact h.new (by omega) hs hi hy
theorem Sto.len (h : Sto pg n st kd rt ow P) {j : Nat} (hj : j ≤ 6) : (reS st P j).length ≤ 1024 := by
  have hl := h.lo
  have := nodup_len_le (reS st P j) ((List.range n).map fun i : Nat => (i : Int)) (h.nodup j hj) fun x hx => by
    rw [List.mem_map]
    rcases reS_mem.1 hx with h1 | h1 | ⟨q, h1, h2, h3⟩
    · exact ⟨0, List.mem_range.2 (by omega), by omega⟩
    · exact ⟨1, List.mem_range.2 (by omega), by omega⟩
    · obtain ⟨i, rfl, h4⟩ := zs_ex h3
      exact ⟨i, List.mem_range.2 (h.pgs (by omega) h2 h4).2.1, rfl⟩
  rw [List.length_map, List.length_range] at this
  omega
theorem Sto.fold (h : Sto pg n st kd rt ow P) (hn : n ≤ N) : ∀ j, j ≤ 6 → ∃ lv, (List.range j).foldlM (storeF pg N st kd rt) ⟨[1, 0], []⟩ = some ⟨reS st P j, lv⟩
  | 0, _ => ⟨[], rfl⟩
  | j + 1, hj => by
    obtain ⟨lv, hf⟩ := h.fold hn j (by omega)
    have hl := h.len (j := j + 1) hj
    rw [fold_step hf]
    unfold storeF
    rw [reS] at hl ⊢
    by_cases hs : st j = 0
    · rw [if_pos hs, if_pos hs]; exact ⟨lv, rfl⟩
    · rw [if_neg hs] at hl
      rw [if_neg hs, if_neg hs]
      rw [List.length_append, List.length_reverse, show (zs (P j)).length = (P j).length from by unfold zs; rw [List.length_map]] at hl
      have hnew := fun i hi => h.new (j := j) (by omega) hs (i := i) hi
      by_cases hk : kd j = 1
      · rw [if_pos hk]
        obtain ⟨h1, ⟨l, h2⟩, h3, h4⟩ := (h.s j (by omega) hs).1 hk
        refine ⟨[], ?_⟩
        exact chain_look (P j) 1025 ⟨reS st P j, []⟩ h3 (fun i hi => by
          have p := h4 i hi
          have := p.ok.1
          unfold Pg.head at this
          exact ⟨p.two, by have := p.lt; omega, p.hp, by omega, p.s⟩) h1 hnew (by show (reS st P j).length + _ ≤ 1024; omega) (by omega) _ _ h2
      · rw [if_neg hk]
        obtain ⟨H, lf, R, ix⟩ := (h.s j (by omega) hs).2 hk
        refine ⟨[] ++ lvs pg lf, ?_⟩
        have look := tree_look (N := N) (sn := (j : Int) + 1) ix.tr (ix.tr.room2 fun i hi hl => (ix.pgs i hi).fl fun e => hl (by show (pg i).l.toNat = 0; rw [e]; rfl)) (fun i hi => ⟨by have := (ix.pgs i hi).lt; omega, (ix.pgs i hi).nd, (ix.pgs i hi).s⟩) ix.nd ⟨reS st P j, []⟩ hnew (by show (reS st P j).length + _ ≤ 1024; omega)
        rw [if_pos (by
          show chained ([] ++ lvs pg lf) = true
          rw [List.nil_append]
          exact lvs_chained pg lf ix.ch fun i hi => by have := (ix.pgs i (ix.lf_mem hi).1).ok.1; unfold Pg.head at this; omega)] at look
        exact look
/-- A page that nobody reaches. -/
theorem Snd.taken (h : Snd pg n st kd rt ow P) (hn : n ≤ N) {id : Nat} (h2 : 2 ≤ id) (hid : id < n) (ho : ow id = none) (he : ∀ i, 2 ≤ i → pg' i = pg i) (ow' : Nat → Option Int) (hw : (ow' id).isSome = true) : ¬ Fine pg' N n st kd rt ow' := fun ⟨s, h3, h4, h5⟩ => by
  obtain ⟨lv, hf⟩ := (h.toSto.frame he).fold hn 6 (Nat.le_refl _)
  unfold storesF at h3
  rw [hf] at h3
  injection h3 with h3
  subst h3
  rcases reS_mem.1 (h5 (id : Int) (owL_mem.2 ⟨id, hid, hw, rfl⟩)) with h6 | h6 | ⟨i, h6, h7, h8⟩
  · omega
  · omega
  · obtain ⟨k, e, hk⟩ := zs_ex h8
    obtain rfl : id = k := Int.ofNat.inj e
    have := (h.pgs h6 h7 hk).2.2
    rw [ho] at this; cases this
/-- A page that is reached and belongs to nobody. -/
theorem Snd.given (h : Snd pg n st kd rt ow P) (hn : n ≤ N) {id : Nat} (hid : id < n) (ho : (ow id).isSome = true) (he : ∀ i, 2 ≤ i → pg' i = pg i) : ¬ Fine pg' N n st kd rt (put ow id none) := fun ⟨s, h3, h4, h5⟩ => by
  obtain ⟨lv, hf⟩ := (h.toSto.frame he).fold hn 6 (Nat.le_refl _)
  obtain ⟨s2, g3, g4, g5⟩ := h.fine hn
  obtain ⟨lv2, hf2⟩ := h.fold hn 6 (Nat.le_refl _)
  unfold storesF at h3 g3
  rw [hf] at h3
  rw [hf2] at g3
  injection h3 with h3
  injection g3 with g3
  subst h3; subst g3
  have h4 : (owL (put ow id none) n).length = (reS st P 6).length := h4
  have g4 : (owL ow n).length = (reS st P 6).length := g4
  have := nodup_len_le ((id : Int) :: owL (put ow id none) n) (owL ow n) (by
    rw [List.nodup_cons]
    refine ⟨fun hm => ?_, owL_nodup⟩
    obtain ⟨i, h1, h2, e⟩ := owL_mem.1 hm
    obtain rfl : id = i := Int.ofNat.inj e
    rw [put_at] at h2; cases h2) fun y hy => by
      rcases List.mem_cons.1 hy with rfl | hy
      · exact owL_mem.2 ⟨id, hid, ho, rfl⟩
      · obtain ⟨i, h1, h2, rfl⟩ := owL_mem.1 hy
        refine owL_mem.2 ⟨i, h1, ?_, rfl⟩
        by_cases e : i = id
        · rw [e, put_at] at h2; cases h2
        · rw [put_ne _ _ e] at h2; exact h2
  rw [List.length_cons] at this
  omega
/-- A page that has another store's number. -/
theorem Snd.other (h : Snd pg n st kd rt ow P) {id : Nat} (h2 : 2 ≤ id) (hid : id < n) (ho : (ow id).isSome = true) (he : ∀ i, i ≠ id → pg' i = pg i) (hs : (pg' id).s = (pg id).s + 1) (ow' : Nat → Option Int) : ¬ Fine pg' N n st kd rt ow' := fun ⟨s, h3, h4, h5⟩ => by
  rcases h.only id hid ho with h6 | ⟨j, h6, h7, h8⟩
  · omega
  · have hp := (h.pgs h6 h7 h8).2.2
    have hs1 := h.vol.s id h2 hid _ hp
    rw [h.num (N := N) h6 h7 h8 he (by omega)] at h3
    cases h3
end
/-- The numbers of what is used rise. -/
theorem rise_ge : ∀ (l : List Nat), l.Pairwise (· < ·) → ∀ i (hi : i < l.length), i ≤ l[i]
  | l, hp, 0, hi => Nat.zero_le _
  | l, hp, i + 1, hi => by
    have h1 := rise_ge l hp i (by omega)
    have h2 := List.pairwise_iff_getElem.1 hp i (i + 1) (by omega) hi (by omega)
    omega
theorem owL_at {ow : Nat → Option Int} {n i : Nat} (hi : i < (owL ow n).length) : ∃ k : Nat, (owL ow n)[i]? = some (k : Int) ∧ i ≤ k ∧ k < n ∧ (ow k).isSome = true := by
  have h1 : i < ((List.range n).filter fun i => (ow i).isSome).length := by unfold owL at hi; rwa [List.length_map] at hi
  refine ⟨((List.range n).filter fun i => (ow i).isSome)[i], by unfold owL; rw [List.getElem?_map, List.getElem?_eq_getElem h1]; rfl, rise_ge _ (List.pairwise_lt_range.sublist List.filter_sublist) i h1, ?_⟩
  have hm := List.mem_filter.1 (List.getElem_mem h1)
  exact ⟨List.mem_range.1 hm.1, hm.2⟩
end Go.Proofs.YtelbioooggnbiaaGreat
namespace Go.Proofs.YtelbioooggnbiaaGreat
open Go.RowKit Go.Maps Go.Shelf

theorem tmod_bd (x : Int) {m : Nat} (hm : 0 < m) : -(m : Int) < x.tmod m ∧ x.tmod m < m := by
  have h1 := Int.tmod_lt_of_pos x (show (0 : Int) < m by omega)
  have h2 := Int.lt_tmod_of_pos x (show (0 : Int) < m by omega)
  omega
/-- x % m + m, and that % m: without a loss. -/
theorem idx_bd (x : Int) {m : Nat} (hm : 0 < m) : 0 ≤ (x.tmod m + m).tmod m ∧ (x.tmod m + m).tmod m < m := by
  have h := tmod_bd x hm
  rw [Int.tmod_eq_emod_of_nonneg (by omega)]
  exact ⟨Int.emod_nonneg _ (by omega), Int.emod_lt_of_pos _ (by omega)⟩
theorem Bk.l2 {w : World} {g : Nat} {p : Pg} (h : Bk w g 38 p.cs) (x : Int) : Bk (w.setCell ⟨g, 2, none⟩ (.int .i64 x)) g 38 ({ p with s := x } : Pg).cs := h.set 2 (.int .i64 x)
theorem owL_len {ow : Nat → Option Int} {n : Nat} : (owL ow n).length ≤ n := by
  unfold owL
  rw [List.length_map]
  have a := List.length_filter_le (fun i => (ow i).isSome) (List.range n)
  rw [List.length_range] at a
  exact a
/-- Not all pages are somebody's. -/
theorem owL_room {ow : Nat → Option Int} {n : Nat} (h : (owL ow n).length ≠ n) : ¬ ∀ i, i < n → (ow i).isSome = true := fun ha => h (by
  have := nodup_len_le ((List.range n).map fun i : Nat => (i : Int)) (owL ow n) (List.Pairwise.map _ (fun a b hab e => hab (Int.ofNat.inj e)) List.nodup_range) fun x hx => by
    obtain ⟨i, hi, rfl⟩ := List.mem_map.1 hx
    exact owL_mem.2 ⟨i, List.mem_range.1 hi, ha i (List.mem_range.1 hi), rfl⟩
  rw [List.length_map, List.length_range] at this
  have := owL_len (ow := ow) (n := n)
  omega)
/-- What Check says of a volume that is not sound. -/
theorem fd_bad {w : World} {B g b gs r N M n : Nat} {und pg : Nat → Pg} {st : Nat → Int} {kd rt : Nat → Nat} {ow : Nat → Option Int} (hs : SV w B g b gs r N M und pg) (hok : ∀ i, i < N → (pg i).ok) (hv : Vol pg n st kd rt ow) (hn : n ≤ N) (hf : ¬ Fine pg N n st kd rt ow) :
    Calls Tryz.prog 10 #[.pointer (some ⟨g, 0, none⟩)] w fun e w' => ∃ er : Int, e = .returned (.int .i64 er) ∧ er ≠ 0 ∧ Below w.heap.size w w' := by
  refine (check_vol hs hok hv hn).mono ?_
  rintro e w' ⟨er, rfl, he, -, hb⟩
  exact ⟨er, rfl, fun e => hf (he.1 e), hb⟩
section
variable {w0 w : World} {g b gs r N M n : Nat} {und pg : Nat → Pg} {st : Nat → Int} {kd rt : Nat → Nat} {ow : Nat → Option Int} {P : Nat → List Nat}
theorem mark_ok {pg : Nat → Pg} (h : Vol pg n st kd rt ow) (hok : ∀ i, i < N → (pg i).ok) (id : Nat) (on : Bool) : ∀ i, i < N → (upd pg 1 (mrk (pg 1) id on) i).ok := fun i hi => by
  unfold upd
  split
  · exact (h.m.mrk id on).ok
  · exact hok i hi
theorem fd_take (h1 : SV w w0.heap.size g b gs r N M und pg) (hs : Snd pg n st kd rt ow P) (hok : ∀ i, i < N → (pg i).ok) (hn : n ≤ N) (hM : M < maxLen) (hb : Below w0.heap.size w0 w) (hroom : ¬ ∀ i, i < n → (ow i).isSome = true) : Calls Tryz.prog 14 #[.pointer (some ⟨g, 0, none⟩)] w fun e w' => ∃ id : Int, e = .returned (.tuple #[.int .i64 id, .int .i64 0]) ∧ Below w0.heap.size w0 w' ∧
    Calls Tryz.prog 10 #[.pointer (some ⟨g, 0, none⟩)] w' fun e w'' => ∃ er : Int, e = .returned (.int .i64 er) ∧ er ≠ 0 ∧ Below w'.heap.size w' w'' := by
  have hl := hs.vol.lo
  refine (take_good h1 (by omega) hs.vol.m hM).mono ?_
  rintro e w' (⟨ha, -, -⟩ | ⟨id, hid, hno, -, rfl, hsv, hg⟩)
  · exact absurd (fun i hi => by rw [← hs.vol.own i hi]; exact ha i hi) hroom
  · rw [hs.vol.own id hid] at hno
    have ho : ow id = none := by cases e : ow id with | none => rfl | some x => rw [e] at hno; cases hno
    have i2 : 2 ≤ id := by
      rcases (show id = 0 ∨ id = 1 ∨ 2 ≤ id by omega) with e | e | e
      · subst e; rw [hs.vol.z.1] at ho; cases ho
      · subst e; rw [hs.vol.z.2] at ho; cases ho
      · exact e
    exact ⟨_, rfl, h1.touch hb rfl hg (.inl rfl), fd_bad hsv (mark_ok hs.vol hok id true) (hs.vol.take id i2 hid) hn (hs.taken hn i2 hid ho (fun i hi => upd_ne _ _ (by omega)) _ (by rw [put_at]; rfl))⟩
theorem fd_give (h1 : SV w w0.heap.size g b gs r N M und pg) (hs : Snd pg n st kd rt ow P) (hok : ∀ i, i < N → (pg i).ok) (hn : n ≤ N) (hM : M < maxLen) (hb : Below w0.heap.size w0 w) (id : Nat) (h2 : 2 ≤ id) (hid : id < n) (ho : (ow id).isSome = true) : Calls Tryz.prog 15 #[.pointer (some ⟨g, 0, none⟩), .int .i64 id] w fun e w' => e = .returned (.int .i64 0) ∧ Below w0.heap.size w0 w' ∧
    Calls Tryz.prog 10 #[.pointer (some ⟨g, 0, none⟩)] w' fun e w'' => ∃ er : Int, e = .returned (.int .i64 er) ∧ er ≠ 0 ∧ Below w'.heap.size w' w'' := by
  have hl := hs.vol.lo
  refine (give_good h1 (by omega) hs.vol.m hM (id : Int)).mono ?_
  rintro e w' (⟨hx, -, -⟩ | ⟨-, rfl, hsv, hg⟩)
  · refine absurd ⟨by omega, by omega, ?_⟩ hx
    rw [Int.toNat_natCast, hs.vol.own id hid]
    exact ho
  · rw [Int.toNat_natCast] at hsv
    exact ⟨rfl, h1.touch hb rfl hg (.inl rfl), fd_bad hsv (mark_ok hs.vol hok id false) (hs.vol.give id h2 hid) hn (hs.given hn hid ho fun i hi => upd_ne _ _ (by omega))⟩
theorem fd_num (h1 : SV w w0.heap.size g b gs r N M und pg) (hs : Snd pg n st kd rt ow P) (hok : ∀ i, i < N → (pg i).ok) (hn : n ≤ N) (hM : M < maxLen) (hb : Below w0.heap.size w0 w) (id : Nat) (h2 : 2 ≤ id) (hid : id < n) (ho : (ow id).isSome = true) : Calls Tryz.prog 16 #[.pointer (some ⟨g, 0, none⟩), .int .i64 id, .agg ({ pg id with s := (pg id).s + 1 } : Pg).cs] w fun e w' => e = .returned (.int .i64 0) ∧ Below w0.heap.size w0 w' ∧
    Calls Tryz.prog 10 #[.pointer (some ⟨g, 0, none⟩)] w' fun e w'' => ∃ er : Int, e = .returned (.int .i64 er) ∧ er ≠ 0 ∧ Below w'.heap.size w' w'' := by
  have hsx : (pg id).s ≤ 6 ∧ 0 ≤ (pg id).s := by
    rcases hs.only id hid ho with h3 | ⟨j, h3, h4, h5⟩
    · omega
    · rw [hs.vol.s id h2 hid _ (hs.pgs h3 h4 h5).2.2]; omega
  have hp : ({ pg id with s := (pg id).s + 1 } : Pg).ok := by
    have := hok id (by omega)
    refine ⟨?_, this.2⟩
    have h3 := this.1
    unfold Pg.head at h3 ⊢
    dsimp only
    omega
  refine (sv_set h1 id (by omega) _ hp hM).mono ?_
  rintro e w' ⟨rfl, hsv, hg⟩
  have hv := hs.vol.lay id h2 ({ pg id with s := (pg id).s + 1 } : Pg)
  rw [if_pos ho] at hv
  refine ⟨rfl, h1.touch hb rfl hg (.inl rfl), fd_bad hsv (fun i hi => ?_) hv hn (hs.other h2 hid ho (fun i hi => upd_ne _ _ hi) ?_ _)⟩
  · unfold upd
    split
    · exact hp
    · exact hok i hi
  · unfold upd
    rw [if_pos rfl]
end
set_option maxRecDepth 100000 in
set_option maxHeartbeats 16000000 in
theorem walk_AuditFinds (v : Value) (l : List Ca) (which kind : Int) (w : World) (hq : CasIn w v l) (hw1 : -9223372036854775808 ≤ which) (hw2 : which ≤ 9223372036854775807) (hk1 : -9223372036854775808 ≤ kind) (hk2 : kind ≤ 9223372036854775807) :
    Calls Tryz.prog 4 #[v, .int .i64 which, .int .i64 kind] w fun e w' => e = .returned (.bool true) ∧ Below w.heap.size w w' := by
  obtain ⟨a, c, rfl, hat⟩ := hq.at_
  have hq : CasIn w (.slice a l.length c) l := ⟨⟨a, c, rfl, hat⟩, hq.len, hq.bd⟩
  have CQ := Lib.hid hq
  have WH := Lib.hid (And.intro hw1 hw2); have KH := Lib.hid (And.intro hk1 hk2)
  obtain ⟨len, hlen⟩ : ∃ len, len = l.length := ⟨_, rfl⟩
  have LN := Lib.hid hlen
  rw [← hlen] at CQ ⊢
  clear hat hq hlen
  have CA := Lib.hid (awake22 w)
  go_enter Tryz.func4, Tryz.ntmps4
  go_wp2_with fail
  refine CA.out.mono ?_
  rintro e w1 ⟨rfl, hb⟩
  have B1 := Lib.hid hb
  have Q1 := Lib.hid (CQ.out.kept hb)
  clear hb CA CQ
  by_cases h100 : 100 < len
  · have h2i : (100 : Int) < (len : Int) := by omega
    have h2d : decide (100 < len) = true := decide_eq_true h100
    clear LN Q1
    go_wp2
    go_ret
    exact ⟨rfl, B1.out⟩
  have h2i : ¬ (100 : Int) < (len : Int) := by omega
  have h2d : decide (100 < len) = false := decide_eq_false h100
  have L100 := Lib.hid h100
  have CV := volume22 60 w1 (by omega) (by omega)
  rw [show ((60 : Nat) : Int) = 60 from rfl] at CV
  have CV := Lib.hid CV
  as_aux_lemma =>
    go_wp2_with fail
    refine CV.out.mono ?_
    rintro e w2 ⟨g, b, gs, r, rfl, hs, hb⟩
    have S2 := Lib.hid hs
    have B2 := Lib.hid hb
    clear hs hb CV h100 h2i h2d
    have CG := Lib.hid (sv_images S2.out)
    as_aux_lemma =>
      go_wp2_with fail
      refine CG.out.mono ?_
      rintro e w3 ⟨v, rfl, hl⟩
      have L1 := Lib.hid hl
      obtain ⟨m', ps, ll, s1, s2, s3, s4, s5, s6, s7, hbb⟩ := hl
      have V3 := Lib.hid (show SV w3 w1.heap.size g b gs r 60 8 (fun _ => Pg.zero) (v3 60) from ⟨m', ps, ll, s1, s2, s3, s4, s5, s6⟩)
      have B3 := Lib.hid (below_then B2.out hbb B2.out.size)
      clear s1 s2 s3 s4 s5 s6 s7 hbb CG B2 S2 m' ps ll
      have CP := Lib.hid (sv_apply L1.out)
      as_aux_lemma =>
        go_wp2_with fail
        refine CP.out.mono ?_
        rintro e w4 ⟨rfl, hs, hg⟩
        have A4 := Lib.hid (show Av w1 w4 g b gs r 60 60 (8 + 40 * 0) from ⟨⟨8, v3 60, hs, by omega, v3_snd 60 (by omega) (by omega)⟩, Nat.le_refl _, V3.out.touch B3.out rfl hg (.inr rfl)⟩)
        clear hs hg CP L1 V3 B3
        as_aux_lemma =>
          go_wp2_with fail
          go_loopw [44] (fun i wr => ∃ k : Nat, k ≤ len ∧ i = .int .i64 k ∧ Av w1 wr g b gs r 60 60 (8 + 40 * k)) (fun i _ => len - (intOf i).toNat)
          case atStart => exact ⟨0, Nat.zero_le _, rfl, A4.out⟩
          case round =>
            obtain ⟨k, hk, rfl, ha⟩ := hrel
            have AR := Lib.hid ha
            clear ha A4
            by_cases hlt : k < len
            · have HLT := Lib.hid hlt
              have kb : k < 9223372036854775807 := by have := L100.out; omega
              have KI := Lib.hid kb
              have HW := AR.out.kp
              have hkl : k < l.length := by rw [← LN.out]; exact hlt
              obtain ⟨cc, hcc⟩ : ∃ cc, cc = l[k] := ⟨_, rfl⟩
              have OK := Lib.hid (show CaOk wr cc from ((Q1.out.kept HW).bd cc (by rw [hcc]; exact List.getElem_mem hkl)))
              obtain ⟨a', c', e1, hat⟩ := (Q1.out.kept HW).at_
              obtain ⟨b1, off, e2, hb1, hra⟩ := hat (by omega)
              rw [← LN.out] at e1
              obtain ⟨rfl, rfl⟩ : a = some ⟨b1, off, none⟩ ∧ c = c' := by rw [e2] at e1; simpa using e1
              have RK := Lib.hid (hra k cc (by rw [hcc]; exact List.getElem?_eq_getElem hkl))
              have hbk := (Below.refl wr.heap.size wr).alloc (Nat.le_refl _) (.cells cc.cs 40)
              have A5 := Lib.hid (AR.out.kept hbk)
              have K5 := Lib.hid (Bk.new wr 40 cc.cs)
              have O5 := Lib.hid (OK.out.kept hbk)
              clear e1 hat e2 hb1 hra hcc hkl HW AR hbk Q1
              as_aux_lemma =>
                go_upto_region 13 with (first | (refine load_ca_off rfl _ rfl b1 off k cc rfl RK.out ?_) | (refine store_ca_new rfl _ _ rfl cc OK.out.sl rfl rfl ?_))
                generalize wr.alloc (.cells cc.cs 40) = w5 at *
                obtain ⟨G, hG⟩ : ∃ G, G = wr.heap.size := ⟨_, rfl⟩
                rw [← hG] at K5 ⊢
                clear hG RK OK
                have CD := Lib.hid (done_any A5.out (by have := HLT.out; have := L100.out; unfold maxLen; omega) cc O5.out)
                as_aux_lemma =>
                  go_wp2_with (refine load_ca rfl _ rfl G cc rfl K5.out ?_)
                  refine CD.out.mono ?_
                  rintro e w6 ⟨rfl, ha⟩
                  have A6 := Lib.hid (show Av w1 w6 g b gs r 60 60 (8 + 40 * (k + 1)) from ha)
                  clear ha CD A5 K5 O5
                  go_wp2
                  go_roundw
                  case rel => exact ⟨k + 1, by have := HLT.out; omega, by go_num, A6.out⟩
                  case measure => have := HLT.out; simp [intOf]; omega
            · have hnb : ¬ (k : Int) < (len : Int) := by omega
              have M9 := Lib.hid (show 8 + 40 * k ≤ 5000 by have := L100.out; omega)
              clear hlt hk Q1 LN
              obtain ⟨M, pg, h1, h2, st, kd, rt, ow, P, hs, hok⟩ := AR.out.ex
              have S6 := Lib.hid h1; have SN := Lib.hid hs; have OKS := Lib.hid hok; have MB := Lib.hid (show M ≤ 5000 by have := M9.out; omega)
              have B6 := Lib.hid AR.out.kp
              have CU := used_vol h1 (Nat.le_refl 60) hs.vol
              rw [show ((60 : Nat) : Int) = 60 from rfl] at CU
              have CU := Lib.hid CU
              clear AR M9 h1 h2 hs hok
              as_aux_lemma =>
                go_wp2_with fail
                refine CU.out.mono ?_
                rintro e w7 ⟨uv, rfl, hu, hb⟩
                have U7 := Lib.hid hu
                have S7 := Lib.hid (S6.out.kept hb)
                have B7 := Lib.hid (below_then B6.out hb B6.out.size)
                have BF := Lib.hid (below_then B1.out B7.out B1.out.size)
                obtain ⟨UL, hUL⟩ : ∃ UL, UL = owL ow 60 := ⟨_, rfl⟩
                rw [← hUL] at hu
                obtain ⟨ua, uc, rfl⟩ : ∃ ua uc, uv = .slice ua UL.length uc := by
                  rcases hu.2 with ⟨rfl, e⟩ | ⟨g', cap, cur, rfl, _⟩
                  · have e : UL.length = 0 := e
                    exact ⟨none, 0, by rw [e]⟩
                  · exact ⟨_, _, rfl⟩
                have UE := Lib.hid hUL
                obtain ⟨nl, hnl⟩ : ∃ nl, nl = UL.length := ⟨_, rfl⟩
                have NL := Lib.hid hnl
                have N60 := Lib.hid (show nl ≤ 60 by rw [hnl, hUL]; exact owL_len)
                rw [← hnl]
                clear hu hb CU S6 B6 hnl hUL
                by_cases h3 : nl < 3
                · have h3i : (nl : Int) < 3 := by omega
                  have h3d : decide (nl < 3) = true := decide_eq_true h3
                  as_aux_lemma =>
                    go_wp2
                    go_ret
                    exact ⟨rfl, BF.out⟩
                have h3i : ¬ (nl : Int) < 3 := by omega
                have h3d : decide (nl < 3) = false := decide_eq_false h3
                by_cases h60 : nl = 60
                · subst h60
                  have h6d : (((60 : Nat) : Int) == 60) = true := rfl
                  as_aux_lemma =>
                    go_wp2
                    go_ret
                    exact ⟨rfl, BF.out⟩
                have h6d : ((nl : Int) == 60) = false := by simp; omega
                have LT := Lib.hid (show 3 ≤ nl ∧ nl < 60 by have := N60.out; omega)
                as_aux_lemma =>
                  obtain ⟨m, hm⟩ : ∃ m, m = nl - 2 := ⟨_, rfl⟩
                  have mp : 0 < m := by omega
                  have tb := tmod_bd which mp
                  obtain ⟨t, ht⟩ : ∃ t, t = which.tmod m + nl - 2 := ⟨_, rfl⟩
                  have t0 : 0 ≤ t.tmod m ∧ t.tmod m < m := by
                    rw [ht, show which.tmod m + (nl : Int) - 2 = which.tmod m + m by omega]
                    exact idx_bd which mp
                  obtain ⟨z, hz⟩ : ∃ z : Nat, (z : Int) = 2 + t.tmod m := ⟨(2 + t.tmod m).toNat, by omega⟩
                  have hzl : z < nl := by omega
                  have hn60 := N60.out
                  have W1 : wrap64 ((nl : Int) - 2) = (m : Int) := by rw [IntWalk.wrap64_in ((nl : Int) - 2) (by omega)]; omega
                  have W2 : wrap64 (which.tmod (m : Int) + (nl : Int)) = which.tmod (m : Int) + (nl : Int) := IntWalk.wrap64_in (which.tmod (m : Int) + (nl : Int)) (by omega)
                  have W3 : wrap64 (which.tmod (m : Int) + (nl : Int) - 2) = t := by rw [IntWalk.wrap64_in (which.tmod (m : Int) + (nl : Int) - 2) (by omega), ht]
                  have W4 : wrap64 (2 + t.tmod (m : Int)) = (z : Int) := by rw [IntWalk.wrap64_in (2 + t.tmod (m : Int)) (by omega), hz]
                  have nz : ¬ (m : Int) = 0 := by omega
                  obtain ⟨id, hUz, hzi, hi60, hio⟩ := owL_at (ow := ow) (n := 60) (i := z) (by rw [← UE.out, ← NL.out]; exact hzl)
                  have hx := U7.out
                  unfold IntsOwn at hx
                  rw [← UE.out, ← NL.out] at hx
                  obtain ⟨ga, gc, hge, hcell⟩ := row_cellA hx (i := z) (u := .int .i64 id) (by rw [UE.out, List.getElem?_map, hUz]; rfl) hzl
                  clear hx
                  obtain ⟨rfl, rfl⟩ : ua = some ⟨ga, 0, none⟩ ∧ uc = gc := by
                    injection hge with e1 e2 e3
                    exact ⟨e1, e3⟩
                  have ID := Lib.hid (show 2 ≤ id ∧ id < 60 ∧ (ow id).isSome = true from ⟨by omega, hi60, hio⟩)
                  have c0 : w7.cell? ⟨ga, z, none⟩ = some (.int .i64 (id : Nat)) := hcell
                  have hz0 : (0 : Int) ≤ (z : Int) := by omega
                  have hz1 : (z : Int) < (nl : Int) := by omega
                  have CG := Lib.hid (sv_get S7.out id hi60)
                  have LM := Lib.hid (show M < maxLen from by have := MB.out; unfold maxLen; omega)
                  obtain ⟨p, hp⟩ : ∃ p, p = pg id := ⟨_, rfl⟩
                  have PE := Lib.hid hp
                  rw [← hp] at CG
                  have RM := Lib.hid (owL_room (ow := ow) (n := 60) (by rw [← UE.out, ← NL.out]; have := LT.out; omega))
                  clear hm hn60 mp tb ht t0 hz hzl hUz hzi hi60 hio hge hcell hp UE NL U7 N60 LT MB
                  as_aux_lemma =>
                    go_upto_region 19 with fail
                    clear W1 W2 W3 W4 nz hz0 hz1 c0
                    go_wp2_with fail
                    refine CG.out.mono ?_
                    rintro e w8 ⟨rfl, hb⟩
                    have S8 := Lib.hid (S7.out.kept hb)
                    have B8 := Lib.hid (below_then B7.out hb B7.out.size)
                    have SA := Lib.hid (S8.out.alloc (.cells p.cs 38))
                    have BA := Lib.hid (B8.out.alloc B8.out.size (.cells p.cs 38))
                    have KP := Lib.hid (Bk.new w8 38 p.cs)
                    obtain ⟨G, hG⟩ : ∃ G, G = w8.heap.size := ⟨_, rfl⟩
                    rw [← hG] at KP
                    have GN := Lib.hid (show G ≠ g ∧ G ≠ b ∧ G ≠ gs ∧ G ≠ r ∧ w1.heap.size ≤ G from by have := S8.out.gs_ne; have := B8.out.size; omega)
                    clear hb CG S7 B7 BF S8 B8
                    have EK := Lib.hid (show (wrap64 (kind.tmod 3 + 3)).tmod 3 = (kind.tmod 3 + 3).tmod 3 from by
                      have tb : -3 < kind.tmod 3 ∧ kind.tmod 3 < 3 := tmod_bd kind (m := 3) (by omega)
                      rw [IntWalk.wrap64_in (kind.tmod 3 + 3) (by omega)])
                    as_aux_lemma =>
                      go_upto_region 20 with (refine store_page_new rfl _ _ rfl p rfl rfl ?_; rw [← hG]; clear hG; generalize w8.alloc (.cells p.cs 38) = w9 at *)
                      by_cases k0 : (kind.tmod 3 + 3).tmod 3 = 0
                      · have e0 : ((wrap64 (kind.tmod 3 + 3)).tmod 3 == 0) = true := by rw [EK.out, k0]; rfl
                        have CT := Lib.hid (fd_take SA.out SN.out OKS.out (Nat.le_refl 60) LM.out BA.out RM.out)
                        clear EK k0 KP
                        as_aux_lemma =>
                          go_wp2_with fail
                          refine CT.out.mono ?_
                          rintro e wa ⟨ia, rfl, hb, hck⟩
                          have BB := Lib.hid hb; have CK := Lib.hid hck
                          clear hb hck CT BA SA
                          go_wp2_with fail
                          refine CK.out.mono ?_
                          rintro e wb ⟨er, rfl, hne, hb⟩
                          have hneb : (er != 0) = true := by simp [hne]
                          have BF := Lib.hid (below_then B1.out (below_then BB.out hb BB.out.size) B1.out.size)
                          clear CK hb BB
                          go_wp2
                          go_ret
                          exact ⟨rfl, BF.out⟩
                      by_cases k1 : (kind.tmod 3 + 3).tmod 3 = 1
                      · have e0 : ((wrap64 (kind.tmod 3 + 3)).tmod 3 == 0) = false := by rw [EK.out, k1]; rfl
                        have e1 : ((wrap64 (kind.tmod 3 + 3)).tmod 3 == 1) = true := by rw [EK.out, k1]; rfl
                        have CT := Lib.hid (fd_give SA.out SN.out OKS.out (Nat.le_refl 60) LM.out BA.out id ID.out.1 ID.out.2.1 ID.out.2.2)
                        clear EK k0 k1 KP
                        as_aux_lemma =>
                          go_wp2_with fail
                          refine CT.out.mono ?_
                          rintro e wa ⟨rfl, hb, hck⟩
                          have BB := Lib.hid hb; have CK := Lib.hid hck
                          clear hb hck CT BA SA
                          go_wp2_with fail
                          refine CK.out.mono ?_
                          rintro e wb ⟨er, rfl, hne, hb⟩
                          have hneb : (er != 0) = true := by simp [hne]
                          have BF := Lib.hid (below_then B1.out (below_then BB.out hb BB.out.size) B1.out.size)
                          clear CK hb BB
                          go_wp2
                          go_ret
                          exact ⟨rfl, BF.out⟩
                      · have k2 : (kind.tmod 3 + 3).tmod 3 = 2 := by
                          have tb := idx_bd kind (m := 3) (by omega)
                          have tb : 0 ≤ (kind.tmod 3 + 3).tmod 3 ∧ (kind.tmod 3 + 3).tmod 3 < 3 := tb
                          omega
                        have e0 : ((wrap64 (kind.tmod 3 + 3)).tmod 3 == 0) = false := by rw [EK.out, k2]; rfl
                        have e1 : ((wrap64 (kind.tmod 3 + 3)).tmod 3 == 1) = false := by rw [EK.out, k2]; rfl
                        have e2 : ((wrap64 (kind.tmod 3 + 3)).tmod 3 == 2) = true := by rw [EK.out, k2]; rfl
                        have SX := show p.s ≤ 6 ∧ 0 ≤ p.s from by
                          rw [PE.out]
                          rcases SN.out.only id ID.out.2.1 ID.out.2.2 with h3 | ⟨j, h3, h4, h5⟩
                          · have := ID.out.1; omega
                          · rw [SN.out.vol.s id ID.out.1 ID.out.2.1 _ (SN.out.pgs h3 h4 h5).2.2]; omega
                        obtain ⟨s1, hs1⟩ : ∃ s1, s1 = p.s + 1 := ⟨_, rfl⟩
                        have W5 : wrap64 (p.s + 1) = s1 := by rw [IntWalk.wrap64_in _ (by omega), hs1]
                        have P2 := Lib.hid (show ({ pg id with s := (pg id).s + 1 } : Pg) = ({ p with s := s1 } : Pg) from by rw [hs1, PE.out])
                        have CT := Lib.hid (fun (wx : World) (hsv : SV wx w1.heap.size g b gs r 60 M pg pg) (hbx : Below w1.heap.size w1 wx) => fd_num hsv SN.out OKS.out (Nat.le_refl 60) LM.out hbx id ID.out.1 ID.out.2.1 ID.out.2.2)
                        rw [P2.out] at CT
                        have c2 : w9.cell? ⟨G, 2, none⟩ = some (.int .i64 p.s) := KP.out.cell 2
                        have fz := KP.out.fz 2
                        have K8 := Lib.hid (KP.out.l2 s1)
                        have SB := Lib.hid (SA.out.grown (only_set (World.grownBy.but (below_grow0 w9) (some G)) 2 (.int .i64 s1)) (fun k hk => by cases hk; have := GN.out; omega))
                        have B9 := Lib.hid (BA.out.setCell (p := ⟨G, 2, none⟩) GN.out.2.2.2.2 (.int .i64 s1))
                        clear EK k0 k1 k2 KP hs1 SX P2 SA BA
                        as_aux_lemma =>
                          go_wp2_with (refine load_page rfl _ rfl G ({ p with s := s1 } : Pg) rfl K8.out ?_)
                          refine (CT.out _ SB.out B9.out).mono ?_
                          rintro e wa ⟨rfl, hb, hck⟩
                          have BB := Lib.hid hb; have CK := Lib.hid hck
                          clear hb hck CT SB B9 K8
                          go_wp2_with fail
                          refine CK.out.mono ?_
                          rintro e wb ⟨er, rfl, hne, hb⟩
                          have hneb : (er != 0) = true := by simp [hne]
                          have BF := Lib.hid (below_then B1.out (below_then BB.out hb BB.out.size) B1.out.size)
                          clear CK hb BB
                          go_wp2
                          go_ret
                          exact ⟨rfl, BF.out⟩
end Go.Proofs.YtelbioooggnbiaaGreat
