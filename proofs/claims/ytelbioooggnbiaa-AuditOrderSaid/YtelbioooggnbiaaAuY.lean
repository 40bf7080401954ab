/- A tree that hangs together, told as audit sees it; and one that does not. A volume with a tree in its second store: sound, then spoilt. AuditOrder: the keys that came in; the calls; the walk. -/
import Derived.Test.YtelbioooggnbiaaAuZ
import Derived.Test.YtelbioooggnbiaaTrPut
import Derived.Test.YtelbioooggnbiaaRead
set_option linter.unusedVariables false
set_option linter.unusedSimpArgs false
namespace Go.Proofs.Ytelbioooggnbiaa
open Go.RowKit

/-- The bounds as audit keeps them. -/
def spOf (a b : Option ByteArray) : Spn := ⟨a.getD ⟨#[]⟩, b.getD ⟨#[]⟩, b.isSome⟩
theorem spOf_holds {a b : Option ByteArray} {k : ByteArray} : (spOf a b).holds k = true ↔ inR kL a b k := by
  unfold Spn.holds spOf inR kL
  rw [Bool.and_eq_true, Bool.or_eq_true, Bool.not_eq_true', Bool.not_eq_true']
  refine and_congr ?_ ?_
  · cases a with
    | none =>
      constructor
      · intro _ x hx
        exact absurd hx (by simp)
      · intro _
        exact slt_empty k ⟨#[]⟩ rfl
    | some x =>
      constructor
      · intro h y hy
        injection hy with hy
        subst hy
        have h : slt k x = false := h
        show ¬ slt k x = true
        rw [h]
        decide
      · intro h
        have h2 : ¬ slt k x = true := h x rfl
        show slt k x = false
        simpa using h2
  · cases b with
    | none =>
      constructor
      · intro _ x hx
        exact absurd hx (by simp)
      · intro _
        exact .inl rfl
    | some x =>
      constructor
      · rintro (h | h) y hy
        · exact absurd h (by simp)
        · injection hy with hy
          subst hy
          exact h
      · intro h
        exact .inr (h x rfl)
theorem below_eq (p : Pg) (a b : Option ByteArray) (q : Nat) : below p (spOf a b) q = spOf ((ndOf p).lo a q) ((ndOf p).hi b q) := by
  unfold below Nd.lo Nd.hi spOf
  dsimp only [ndOf]
  by_cases h1 : q = 0
  · by_cases h2 : q + 1 < cnt p.c
    · simp [h1, h2, if_pos]; simp [h1] at h2; simp [h2]
    · simp [h1, h2]; simp [h1] at h2; simp [show ¬ 1 < cnt p.c by omega]
  · by_cases h2 : q + 1 < cnt p.c
    · simp [h1, h2]
    · simp [h1, h2]
/-- The bounds of an inner node's place leave room. -/
theorem sp_room {a b : Option ByteArray} {k : ByteArray} (h : inR kL a b k) : (spOf a b).holds (spOf a b).lo = true := by
  have h0 := spOf_holds.2 h
  unfold Spn.holds at h0 ⊢
  rw [Bool.and_eq_true, Bool.or_eq_true, Bool.not_eq_true', Bool.not_eq_true'] at h0 ⊢
  refine ⟨slt_irrefl _, ?_⟩
  rcases h0.2 with h1 | h1
  · exact .inl h1
  · refine .inr ?_
    cases h2 : slt (spOf a b).lo k with
    | true => exact slt_trans h2 h1
    | false => rw [← slt_tri h0.1 h2]; exact h1
/-- Each part's bounds leave room. -/
inductive Tb (N : Nat → Nd ByteArray Ce) : Nat → Nat → Option ByteArray → Option ByteArray → Prop
  | leaf {id : Nat} {a b : Option ByteArray} : Tb N 0 id a b
  | inner {h id : Nat} {a b : Option ByteArray} (h1 : (spOf a b).holds (spOf a b).lo = true) (hk : ∀ q, q < (N id).n → Tb N h ((N id).kid q) ((N id).lo a q) ((N id).hi b q)) : Tb N (h + 1) id a b
theorem Tr.room {N : Nat → Nd ByteArray Ce} {h id : Nat} {a b : Option ByteArray} {lf ids : List Nat} {R : List (ByteArray × Ce)} (t : Tr kL N h id a b lf ids R) (hn : h ≠ 0 → ∀ i, i ∈ lf → 0 < (N i).n) : Tb N h id a b := by
  induction t with
  | leaf => exact .leaf
  | @inner h id a b lf ids rs h0 hn' h1 h2 hk ih =>
    have hn := hn (by omega)
    refine .inner ?_ fun q hq => ih q hq fun _ i hi => hn i (flat_mem.2 ⟨q, hq, hi⟩)
    have t0 := hk 0 hn'
    obtain ⟨e1, e2, e3⟩ := t0.leaves
    obtain ⟨i, hi⟩ := List.exists_mem_of_ne_nil _ e2
    have hp := hn i (flat_mem.2 ⟨0, hn', hi⟩)
    have hr : ((N i).key 0, (N i).cell 0) ∈ rs 0 := by
      rw [e1, List.mem_flatMap]
      exact ⟨i, hi, List.mem_map.2 ⟨0, List.mem_range.2 hp, rfl⟩⟩
    exact sp_room (inR_lo kOrd h1 hn' (t0.range kOrd _ hr))
theorem Tr.head {K C : Type} {lt : K → K → Prop} {N : Nat → Nd K C} {h id : Nat} {a b : Option K} {L I : List Nat} {R : List (K × C)} (t : Tr lt N h id a b L I R) : I = id :: I.tail := by
  cases t <;> rfl
/-- What audit asks of a page ahead of all. -/
structure PgA (pg : Nat → Pg) (N : Nat) (sn : Int) (i : Nat) : Prop where
  lt : i < N
  nd : nodeOk (pg i)
  s : (pg i).s = sn
def zs (l : List Nat) : List Int := l.map fun (i : Nat) => (i : Int)
def lvs (pg : Nat → Pg) (l : List Nat) : List (Int × Int) := l.map fun (i : Nat) => ((i : Int), (pg i).n)
theorem zs_mem {l : List Nat} {i : Nat} : (i : Int) ∈ zs l ↔ i ∈ l := by
  unfold zs
  rw [List.mem_map]
  exact ⟨fun ⟨j, h1, h2⟩ => by rw [← Int.ofNat.inj (show Int.ofNat j = Int.ofNat i from h2)]; exact h1, fun h => ⟨i, h, rfl⟩⟩
theorem reach_new {pg : Nat → Pg} {N : Nat} {sn : Int} {s : LkS} {i : Nat} (h : PgA pg N sn i) (h1 : (i : Int) ∉ s.re) (h2 : s.re.length < 1024) : reachF pg N sn s (i : Int) = some ⟨(i : Int) :: s.re, s.lv⟩ := by
  unfold reachF
  rw [if_neg (by rw [not_or]; exact ⟨h1, by omega⟩), if_pos ⟨⟨by omega, by have := h.lt; omega⟩, by rw [Int.toNat_natCast]; exact h.s⟩]
/-- A tree that hangs together, looked through. -/
theorem node_look {pg : Nat → Pg} {N : Nat} {sn : Int} {h id : Nat} {a b : Option ByteArray} {lf ids : List Nat} {R : List (ByteArray × Ce)} (t : Tr kL (NN pg) h id a b lf ids R) : Tb (NN pg) h id a b → (∀ i, i ∈ ids → PgA pg N sn i) → ids.Nodup → ∀ s : LkS, (∀ i, i ∈ ids.tail → (i : Int) ∉ s.re) → s.re.length + ids.length ≤ 1025 →
    nodeF pg N sn h id s (spOf a b) = some ⟨(zs ids.tail).reverse ++ s.re, s.lv ++ lvs pg lf⟩ := by
  induction t with
  | @leaf id a b h0 h1 h2 =>
    intro _ hp _ s _ _
    have p := hp id (by simp)
    have l0 : (pg id).l = 0 := by
      have : (pg id).l.toNat = 0 := h0
      have := p.nd.1.2.1
      omega
    rw [nodeF, if_pos ⟨p.nd, by omega⟩]
    unfold leafF
    rw [if_pos (show ∀ i, i < cnt (pg id).c → (spOf a b).holds ((pg id).c i).key = true from fun i hi => spOf_holds.2 (h1 i hi))]
    rfl
  | @inner h id a b lf ids rs h0 hn h1 h2 hk ih =>
    intro tb hp hd s hs hz
    have p := hp id (by simp)
    have l0 : (pg id).l = ((h + 1 : Nat) : Int) := by
      have : (pg id).l.toNat = h + 1 := h0
      omega
    cases tb with
    | inner r1 rk =>
      rw [nodeF, if_pos p.nd, if_pos (by omega)]
      rw [List.nodup_cons] at hd
      obtain ⟨d1, d2⟩ := flat_nodup hd.2
      have hs' : ∀ i, i ∈ flat (cnt (pg id).c) ids → (i : Int) ∉ s.re := hs
      have hz' : s.re.length + (flat (cnt (pg id).c) ids).length ≤ 1024 := by
        have : s.re.length + (id :: flat (cnt (pg id).c) ids).length ≤ 1025 := hz
        rw [List.length_cons] at this
        omega
      have main : ∀ m, m ≤ cnt (pg id).c → (List.range m).foldlM (kidF pg N sn (nodeF pg N sn h) (pg id) (spOf a b)) s = some ⟨(zs (flat m ids)).reverse ++ s.re, s.lv ++ lvs pg (flat m lf)⟩ := by
        intro m
        induction m with
        | zero => intro _; simp [flat, zs, lvs]
        | succ m im =>
          intro hm
          rw [fold_step (im (by omega))]
          unfold kidF
          have hq : m < (NN pg id).n := hm
          have tq := hk m hq
          have eh := tq.head
          have hlen : (flat (m + 1) ids).length ≤ (flat (cnt (pg id).c) ids).length := by
            obtain ⟨r, hr⟩ : ∃ r, cnt (pg id).c = (m + 1) + r := ⟨cnt (pg id).c - (m + 1), by omega⟩
            rw [hr, flat_add (m + 1) r, List.length_append]
            omega
          rw [flat_succ, List.length_append] at hlen
          have hkid : (NN pg id).kid m ∈ ids m := by rw [eh]; simp
          have notold : ∀ i, i ∈ ids m → (i : Int) ∉ (zs (flat m ids)).reverse ++ s.re := fun i hi hc => by
            rcases List.mem_append.1 hc with hc | hc
            · rw [List.mem_reverse, zs_mem] at hc
              obtain ⟨r, hr, hr2⟩ := flat_mem.1 hc
              exact d2 r m hr hm i hr2 hi
            · exact hs' i (flat_mem.2 ⟨m, hm, hi⟩) hc
          have hold : (spOf a b).holds (below (pg id) (spOf a b) m).lo = true := by
            by_cases e : m = 0
            · subst e
              exact r1
            · unfold below
              dsimp only
              rw [if_neg e]
              exact spOf_holds.2 (h1 m (by omega) hq)
          rw [if_pos hold]
          have hpk := hp _ (List.mem_cons_of_mem _ (flat_mem.2 ⟨m, hm, hkid⟩))
          have zl : (zs (flat m ids)).length = (flat m ids).length := by unfold zs; rw [List.length_map]
          have hlm : (ids m).length = (ids m).tail.length + 1 := by
            have := congrArg List.length eh
            rw [List.length_cons] at this
            exact this
          rw [reach_new (i := ((pg id).c m).child) hpk (notold _ hkid) (by rw [List.length_append, List.length_reverse, zl]; omega)]
          rw [Option.bind_some, below_eq]
          have lk : (pg ((pg id).c m).child).l = (pg id).l - 1 := by
            have h3 : (pg ((pg id).c m).child).l.toNat = h := (tq.self).2
            have := hpk.nd.1.2.1
            have h4 : 0 ≤ (pg ((pg id).c m).child).l := this
            omega
          rw [if_pos lk]
          have dm := d1 m hm
          rw [eh, List.nodup_cons] at dm
          have fin := ih m hq (rk m hq) (fun i hi => hp i (List.mem_cons_of_mem _ (flat_mem.2 ⟨m, hm, hi⟩))) (d1 m hm) ⟨(((pg id).c m).child : Int) :: ((zs (flat m ids)).reverse ++ s.re), s.lv ++ lvs pg (flat m lf)⟩ (fun i hi hc => by
            rcases List.mem_cons.1 hc with hc | hc
            · have : i = ((pg id).c m).child := by exact Int.ofNat.inj hc
              subst this
              exact dm.1 hi
            · exact notold i (by rw [eh]; exact List.mem_cons_of_mem _ hi) hc) (by
            rw [List.length_cons, List.length_append, List.length_reverse, zl]
            omega)
          refine fin.trans ?_
          congr 1
          congr 1
          · rw [flat_succ]
            conv => rhs; rw [eh]
            unfold zs
            simp [List.map_append, List.append_assoc]
            rfl
          · rw [flat_succ]
            unfold lvs
            rw [List.map_append, List.append_assoc]
      exact main _ (Nat.le_refl _)
theorem tree_look {pg : Nat → Pg} {N : Nat} {sn : Int} {h rt : Nat} {lf ids : List Nat} {R : List (ByteArray × Ce)} (t : Tr kL (NN pg) h rt none none lf ids R) (tb : Tb (NN pg) h rt none none) (hp : ∀ i, i ∈ ids → PgA pg N sn i) (hd : ids.Nodup) (s : LkS) (hs : ∀ i, i ∈ ids → (i : Int) ∉ s.re) (hz : s.re.length + ids.length ≤ 1024) :
    treeF pg N sn s rt = if chained (s.lv ++ lvs pg lf) = true then some ⟨(zs ids).reverse ++ s.re, s.lv ++ lvs pg lf⟩ else none := by
  have eh := t.head
  have hr : rt ∈ ids := by rw [eh]; simp
  have hl : ids.length = ids.tail.length + 1 := by
    have := congrArg List.length eh
    rw [List.length_cons] at this
    exact this
  unfold treeF
  rw [reach_new (hp rt hr) (hs rt hr) (by omega), Option.bind_some]
  have lr : (pg rt).l.toNat = h := t.self.2
  have hd' := hd
  rw [eh, List.nodup_cons] at hd'
  have fin := node_look (N := N) (sn := sn) t tb hp hd ⟨(rt : Int) :: s.re, s.lv⟩ (fun i hi hc => by
    rcases List.mem_cons.1 hc with hc | hc
    · have : i = rt := Int.ofNat.inj hc
      subst this
      exact hd'.1 hi
    · exact hs i (by rw [eh]; exact List.mem_cons_of_mem _ hi) hc) (by rw [List.length_cons]; omega)
  rw [lr, show sp0 = spOf none none from rfl, fin, Option.bind_some]
  have e : (zs ids.tail).reverse ++ (rt : Int) :: s.re = (zs ids).reverse ++ s.re := by
    conv => rhs; rw [eh]
    unfold zs
    simp [List.append_assoc]
  rw [e]
theorem lvs_chained (pg : Nat → Pg) : ∀ (l : List Nat), Chn (fun i => (pg i).n.toNat) l → (∀ i, i ∈ l → 0 ≤ (pg i).n) → chained (lvs pg l) = true
  | [], _, _ => rfl
  | [x], h, h0 => by
    have h1 : (pg x).n.toNat = 0 := h.next
    have h2 := h0 x (by simp)
    show ((pg x).n == 0) = true
    rw [beq_iff_eq]
    omega
  | x :: y :: l, h, h0 => by
    have h1 : (pg x).n.toNat = y := h.next
    have h2 := h0 x (by simp)
    show ((pg x).n == (y : Int) && chained (lvs pg (y :: l))) = true
    rw [lvs_chained pg (y :: l) h.tail fun i hi => h0 i (List.mem_cons_of_mem _ hi), Bool.and_true, beq_iff_eq]
    omega
theorem lvs_own {pg : Nat → Pg} {x : Nat} (hx : 0 < x) (hn : (pg x).n = (x : Int)) : ∀ (l : List Nat), l.Nodup → x ∈ l → chained (lvs pg l) = false
  | [], _, h => by cases h
  | [y], _, h => by
    obtain rfl : x = y := by simpa using h
    show ((pg x).n == 0) = false
    rw [hn, beq_eq_false_iff_ne]
    omega
  | y :: z :: l, hd, h => by
    rw [List.nodup_cons] at hd
    show ((pg y).n == (z : Int) && chained (lvs pg (z :: l))) = false
    rcases List.mem_cons.1 h with e | e
    · subst e
      have : ((pg x).n == (z : Int)) = false := by
        rw [hn, beq_eq_false_iff_ne]
        intro e
        have := Int.ofNat.inj e
        exact hd.1 (by rw [this]; simp)
      rw [this, Bool.false_and]
    · rw [lvs_own hx hn (z :: l) hd.2 e, Bool.and_false]
theorem fold_none {β : Type} {f : β → Nat → Option β} {q n : Nat} (hq : q < n) (h : ∀ t, f t q = none) (s : β) : (List.range n).foldlM f s = none := by
  cases e : (List.range q).foldlM f s with
  | some t => exact fold_stop e (h t) hq
  | none =>
    obtain ⟨m, rfl⟩ : ∃ m, n = q + m := ⟨n - q, by omega⟩
    rw [List.range_add]
    exact foldlM_none e
/-- One leaf spoilt: however it is come to, the look fails. -/
theorem node_bad {pg pg' : Nat → Pg} {N : Nat} {sn : Int} {x : Nat} (hs : ∀ i, i ≠ x → pg' i = pg i) (hb : (pg' x).l ≠ 0 ∨ ¬ nodeOk (pg' x)) {h id : Nat} {a b : Option ByteArray} {lf ids : List Nat} {R : List (ByteArray × Ce)} (t : Tr kL (NN pg) h id a b lf ids R) :
    x ∈ lf → (pg x).l = 0 → h ≠ 0 → ∀ (s : LkS) (sp : Spn), nodeF pg' N sn h id s sp = none := by
  induction t with
  | leaf => intro _ _ h; exact absurd rfl h
  | @inner h id a b lf ids rs h0 hn h1 h2 hk ih =>
    intro hx l0 _ s sp
    have hne : id ≠ x := fun e => by
      have h3 : (pg id).l.toNat = h + 1 := h0
      rw [e, l0] at h3
      simp at h3
    have lid : (pg id).l = ((h + 1 : Nat) : Int) := by
      have : (pg id).l.toNat = h + 1 := h0
      omega
    rw [nodeF, hs id hne]
    by_cases hok : nodeOk (pg id)
    · rw [if_pos hok, if_pos (by omega)]
      obtain ⟨q, hq, hxq⟩ := flat_mem.1 hx
      refine fold_none (q := q) hq (fun u => ?_) s
      unfold kidF
      by_cases g1 : sp.holds (below (pg id) sp q).lo = true
      · rw [if_pos g1]
        cases g2 : reachF pg' N sn u (((pg id).c q).child : Int) with
        | none => rfl
        | some u' =>
          rw [Option.bind_some]
          by_cases g3 : (pg' ((pg id).c q).child).l = (pg id).l - 1
          · rw [if_pos g3]
            by_cases e : h = 0
            · subst e
              obtain ⟨e1, -⟩ := (hk q hq).lf
              rw [e1] at hxq
              have h5 : x = (NN pg id).kid q := by simpa using hxq
              have hxk : x = ((pg id).c q).child := h5
              rw [← hxk] at g3 ⊢
              rw [nodeF, if_neg]
              rintro ⟨n1, n2⟩
              rcases hb with hb | hb
              · omega
              · exact hb n1
            · exact ih q hq hxq l0 e u' _
          · rw [if_neg g3]
      · rw [if_neg g1]
    · rw [if_neg hok]
theorem tree_bad {pg pg' : Nat → Pg} {N : Nat} {sn : Int} {x : Nat} (hs : ∀ i, i ≠ x → pg' i = pg i) (hb : (pg' x).l ≠ 0 ∨ ¬ nodeOk (pg' x)) {h rt : Nat} {lf ids : List Nat} {R : List (ByteArray × Ce)} (t : Tr kL (NN pg) h rt none none lf ids R) (hx : x ∈ lf) (l0 : (pg x).l = 0) (h0 : h ≠ 0) (s : LkS) : treeF pg' N sn s rt = none := by
  have hne : rt ≠ x := fun e => by
    have h3 : (pg rt).l.toNat = h := t.self.2
    rw [e, l0] at h3
    simp at h3
    omega
  unfold treeF
  cases g2 : reachF pg' N sn s (rt : Int) with
  | none => rfl
  | some u =>
    have lr : (pg' rt).l.toNat = h := by rw [hs rt hne]; exact t.self.2
    rw [Option.bind_some, lr, node_bad (N := N) (sn := sn) hs hb t hx l0 h0]
    rfl
end Go.Proofs.Ytelbioooggnbiaa
namespace Go.Proofs.Ytelbioooggnbiaa
open Go.RowKit

/-- Each node of no height is a leaf. -/
theorem Tr.lv0 {K C : Type} {lt : K → K → Prop} {N : Nat → Nd K C} {h id : Nat} {a b : Option K} {L I : List Nat} {R : List (K × C)} (t : Tr lt N h id a b L I R) : ∀ i, i ∈ I → (N i).lv = 0 → i ∈ L := by
  induction t with
  | leaf => exact fun i hi _ => hi
  | @inner h id a b lf ids rs h0 hn h1 h2 hk ih =>
    intro i hi hl
    rcases List.mem_cons.1 hi with e | e
    · rw [e] at hl; omega
    · obtain ⟨q, hq, hm⟩ := flat_mem.1 e
      exact flat_mem.2 ⟨q, hq, ih q hq i hm hl⟩
/-- Between the puts. -/
structure Ao (pg : Nat → Pg) (ow : Nat → Option Int) (H : Nat) (lf ids : List Nat) (R : List (ByteArray × Ce)) : Prop where
  tv : Tv pg 80 vst vkd vrt ow 2 H lf ids R True
  ok : ∀ i, i < 80 → (pg i).ok
  heap : pg 2 = newPg 1 0
  o2 : ow 2 = some 1
  own : ∀ i, i < 80 → (ow i).isSome = true → i < 2 ∨ i = 2 ∨ i ∈ ids
  live : ∀ x, x ∈ R → x.2.st = 1
theorem ao_new : Ao (v3 80) vow 0 [3] [3] [] := by
  obtain ⟨hf, hw⟩ := v3_flat 80 80 (by omega) (by omega)
  have p3 : v3 80 3 = newPg 2 1 := rfl
  obtain ⟨no, nc⟩ := newPg_node 2 1 (by decide) (by decide)
  refine ⟨⟨hf.vol, by omega, rfl, .inl rfl, ⟨?_, by simp, fun i hi => ?_, rfl, fun _ i hi hr => ?_, by omega⟩⟩, hf.ok, rfl, rfl, fun i h1 h2 => ?_, fun x hx => by cases hx⟩
  · have := Tr.leaf (lt := kL) (N := NN (v3 80)) (id := 3) (a := none) (b := none) rfl (fun q hq => by
      have hq2 : q < cnt (v3 80 3).c := hq
      rw [p3, nc] at hq2; omega) (fun q r _ hr => by
      have hq2 : r < cnt (v3 80 3).c := hr
      rw [p3, nc] at hq2; omega)
    have e3 : (NN (v3 80) 3).rows = [] := by
      show (List.range (cnt (v3 80 3).c)).map _ = []
      rw [p3, nc]; rfl
    rw [e3] at this
    exact this
  · obtain rfl : i = 3 := by simpa using hi
    exact ⟨by omega, by omega, by rw [p3]; exact no, by rw [p3]; exact newPg_ok 2 1 (by omega), rfl, rfl, fun h => absurd rfl h⟩
  · obtain rfl : i = 3 := by simpa using hi
    exact absurd (show (3 : Nat) = vrt (2 - 1) from rfl) hr
  · rcases hw i h1 h2 with h | ⟨j, h3, h4, h5⟩
    · exact .inl h
    · right
      rcases (show j = 0 ∨ j = 1 ∨ 2 ≤ j by omega) with e | e | e
      · subst e; left; rw [← h5]; rfl
      · subst e; right; rw [← h5]; simp [vrt, put]
      · have : vst j = 0 := by unfold vst; rw [put_ne _ _ (by omega), put_ne _ _ (by omega)]
        exact absurd this h4
/-- What a volume's stores say: the heap is one empty page. -/
theorem vol_look {pg : Nat → Pg} (h : pg 2 = newPg 1 0) : storesF pg 80 vst vkd vrt = treeF pg 80 2 ⟨[2, 1, 0], []⟩ 3 := by
  have e0 : storeF pg 80 vst vkd vrt ⟨[1, 0], []⟩ 0 = some ⟨[2, 1, 0], []⟩ := by
    unfold storeF
    rw [if_neg (by decide), if_pos (by decide)]
    show chainF pg 80 1 1025 ⟨[1, 0], []⟩ 2 = _
    rw [show (1025 : Nat) = 1024 + 1 from rfl, chainF]
    have hr : reachF pg 80 1 ⟨[1, 0], []⟩ 2 = some ⟨[2, 1, 0], []⟩ := by
      unfold reachF
      rw [if_neg (by simp), if_pos]
      refine ⟨⟨by decide, by decide⟩, ?_⟩
      show (pg 2).s = 1
      rw [h]
      rfl
    rw [hr, Option.bind_some]
    show (if heapPage (pg 2) then if (pg 2).n = 0 then _ else _ else _) = _
    rw [h]
    have e : newPg 1 0 = pgK 3 (((0 : Nat) : Int) + 1) := by unfold newPg; rw [if_pos rfl]
    rw [e, if_pos ⟨rfl, fun i hi => by show (0 : Nat) ≤ 32; omega⟩, if_pos (show (pgK 3 (((0 : Nat) : Int) + 1)).n = 0 from rfl)]
  have e1 : ∀ s, storeF pg 80 vst vkd vrt s 1 = treeF pg 80 2 ⟨s.re, []⟩ 3 := fun s => by
    unfold storeF
    rw [if_neg (by decide), if_neg (by decide)]
    rfl
  have e2 : ∀ s j, 2 ≤ j → storeF pg 80 vst vkd vrt s j = some s := fun s j hj => by
    unfold storeF
    rw [if_pos]
    unfold vst
    rw [put_ne _ _ (by omega), put_ne _ _ (by omega)]
  unfold storesF
  have r : List.range 6 = [0, 1, 2, 3, 4, 5] := rfl
  rw [r, List.foldlM_cons, e0, Option.bind_eq_bind, Option.bind_some, List.foldlM_cons, e1]
  cases e : treeF pg 80 2 ⟨[2, 1, 0], []⟩ 3 with
  | none => rfl
  | some s =>
    rw [Option.bind_eq_bind, Option.bind_some]
    simp only [List.foldlM_cons, e2 _ 2 (by omega), e2 _ 3 (by omega), e2 _ 4 (by omega), e2 _ 5 (by omega), Option.bind_eq_bind, Option.bind_some, List.foldlM_nil]
    rfl
section
variable {pg : Nat → Pg} {ow : Nat → Option Int} {H : Nat} {lf ids : List Nat} {R : List (ByteArray × Ce)}
theorem Ao.two (h : Ao pg ow H lf ids R) : 2 ∉ ids := fun hm => by
  have := (h.tv.ix.pgs 2 hm).ow
  rw [h.o2] at this
  have := Option.some.inj this
  exact absurd this (by decide)
theorem Ao.room (h : Ao pg ow H lf ids R) : Tb (NN pg) H 3 none none :=
  Tr.room (show Tr kL (NN pg) H 3 none none lf ids R from h.tv.ix.tr) fun h0 i hi => by
    have hm := h.tv.ix.lf_mem hi
    have hne : i ≠ vrt (2 - 1) := fun e => by
      have h3 : (pg (vrt (2 - 1))).l.toNat = H := h.tv.ix.tr.self.2
      rw [← e, hm.2] at h3
      exact h0 h3.symm
    have := h.tv.ix.ff trivial i hm.1 hne
    show 0 < cnt (pg i).c
    omega
theorem Ao.fresh (h : Ao pg ow H lf ids R) (i : Nat) (hi : i ∈ ids) : (i : Int) ∉ ([2, 1, 0] : List Int) := fun hc => by
  have h2 := (h.tv.ix.pgs i hi).two
  have hn : i ≠ 2 := fun e => h.two (by rw [← e]; exact hi)
  simp at hc
  omega
theorem Ao.fine (h : Ao pg ow H lf ids R) : Fine pg 80 80 vst vkd vrt ow := by
  have ix := h.tv.ix
  have hlen := ix.len
  have look := tree_look (N := 80) (sn := 2) (show Tr kL (NN pg) H 3 none none lf ids R from ix.tr) h.room (fun i hi => ⟨(ix.pgs i hi).lt, (ix.pgs i hi).nd, (ix.pgs i hi).s⟩) ix.nd ⟨[2, 1, 0], []⟩ h.fresh (by show 3 + ids.length ≤ 1024; omega)
  rw [if_pos (by
    show chained ([] ++ lvs pg lf) = true
    rw [List.nil_append]
    exact lvs_chained pg lf ix.ch fun i hi => by have := (ix.pgs i (ix.lf_mem hi).1).ok.1; unfold Pg.head at this; omega)] at look
  have hv := h.tv.vol
  have nd : ((zs ids).reverse ++ [2, 1, 0]).Nodup := by
    rw [List.nodup_append]
    refine ⟨?_, by decide, fun x hx y hy e => ?_⟩
    · unfold zs
      rw [← List.map_reverse]
      refine List.Pairwise.map _ (fun (a b : Nat) (hab : b ≠ a) (e : (a : Int) = (b : Int)) => hab (Int.ofNat.inj e).symm) (List.pairwise_reverse.2 ?_)
      exact ix.nd.imp fun h => h
    · subst e
      rw [List.mem_reverse] at hx
      unfold zs at hx
      obtain ⟨i, hi, rfl⟩ := List.mem_map.1 hx
      exact h.fresh i hi hy
  have sub : ∀ x, x ∈ owL ow 80 → x ∈ (zs ids).reverse ++ [2, 1, 0] := fun x hx => by
    obtain ⟨i, h1, h2, rfl⟩ := owL_mem.1 hx
    rw [List.mem_append, List.mem_reverse, zs_mem]
    rcases h.own i h1 h2 with h3 | h3 | h3
    · right
      rcases (show i = 0 ∨ i = 1 by omega) with e | e
      · subst e; simp
      · subst e; simp
    · right; subst h3; simp
    · exact .inl h3
  have sup : ∀ x, x ∈ (zs ids).reverse ++ [2, 1, 0] → x ∈ owL ow 80 := fun x hx => by
    rw [owL_mem]
    rcases List.mem_append.1 hx with h1 | h1
    · rw [List.mem_reverse] at h1
      unfold zs at h1
      obtain ⟨i, hi, rfl⟩ := List.mem_map.1 h1
      exact ⟨i, (ix.pgs i hi).lt, by rw [(ix.pgs i hi).ow]; rfl, rfl⟩
    · simp at h1
      rcases h1 with e | e | e
      · exact ⟨2, by omega, by rw [h.o2]; rfl, e⟩
      · exact ⟨1, by omega, by rw [hv.z.2]; rfl, e⟩
      · exact ⟨0, by omega, by rw [hv.z.1]; rfl, e⟩
  exact ⟨_, (vol_look h.heap).trans look, Nat.le_antisymm (nodup_len_le _ _ owL_nodup sub) (nodup_len_le _ _ nd sup), sub⟩
/-- The leaves that the law finds. -/
def isLf (pg : Nat → Pg) (i : Int) : Bool := decide ((pg i.toNat).k = 4) && decide ((pg i.toNat).l = 0)
def lfL (pg : Nat → Pg) (ow : Nat → Option Int) : List Int := (owL ow 80).filter (isLf pg)
theorem Ao.lf_of (h : Ao pg ow H lf ids R) {x : Int} (hx : x ∈ lfL pg ow) : ∃ i : Nat, x = i ∧ i ∈ lf ∧ (pg i).l = 0 ∧ i ∈ ids := by
  unfold lfL at hx
  obtain ⟨h1, h2⟩ := List.mem_filter.1 hx
  obtain ⟨i, hi, ho, rfl⟩ := owL_mem.1 h1
  unfold isLf at h2
  rw [Bool.and_eq_true, decide_eq_true_iff, decide_eq_true_iff, Int.toNat_natCast] at h2
  have hv := h.tv.vol
  rcases h.own i hi ho with h3 | h3 | h3
  · exfalso
    rcases (show i = 0 ∨ i = 1 by omega) with e | e
    · subst e
      have := hv.d.k
      rw [h2.1] at this
      exact absurd this (by decide)
    · subst e
      have := hv.m.ch.1
      rw [h2.1] at this
      exact absurd this (by decide)
  · subst h3
    rw [h.heap] at h2
    exact absurd h2.1 (by decide)
  · exact ⟨i, rfl, h.tv.ix.tr.lv0 i h3 (by show (pg i).l.toNat = 0; rw [h2.2]; rfl), h2.2, h3⟩
theorem Ao.high (h : Ao pg ow H lf ids R) (h2 : 2 ≤ (lfL pg ow).length) : H ≠ 0 := fun e => by
  subst e
  obtain ⟨e1, -⟩ := h.tv.ix.tr.lf
  have := nodup_len_le (lfL pg ow) [(vrt (2 - 1) : Int)] (owL_nodup.sublist List.filter_sublist) fun x hx => by
    obtain ⟨i, rfl, hi, -⟩ := h.lf_of hx
    rw [e1] at hi
    have hi : i = vrt (2 - 1) := by simpa using hi
    rw [hi]
    simp
  simp at this
  omega
/-- A leaf of a higher tree is not its root. -/
theorem Ao.not_root (h : Ao pg ow H lf ids R) (hH : H ≠ 0) {i : Nat} (hl : (pg i).l = 0) : i ≠ vrt (2 - 1) := fun e => by
  have h3 : (pg (vrt (2 - 1))).l.toNat = H := h.tv.ix.tr.self.2
  rw [← e, hl] at h3
  exact hH h3.symm
theorem swap_bad {p : Pg} (h : nodeOk p) (h2 : 2 ≤ cnt p.c) : ¬ nodeOk (putC (putC p 0 (p.c 1)) 1 (p.c 0)) := fun hb => by
  have ho := hb.2 1 (by omega)
  have s0 := cnt_below p.c 0 (by omega)
  have s1 := cnt_below p.c 1 (by omega)
  have lt := sorted_lt p h 0 1 (by omega) (by omega)
  have c0 : (putC (putC p 0 (p.c 1)) 1 (p.c 0)).c 0 = p.c 1 := rfl
  have c1 : (putC (putC p 0 (p.c 1)) 1 (p.c 0)).c 1 = p.c 0 := rfl
  have hc : 1 < cnt (putC (putC p 0 (p.c 1)) 1 (p.c 0)).c := by
    refine Nat.lt_of_not_le fun hle => ?_
    rcases (show cnt (putC (putC p 0 (p.c 1)) 1 (p.c 0)).c = 0 ∨ cnt (putC (putC p 0 (p.c 1)) 1 (p.c 0)).c = 1 by omega) with e | e
    · have := cnt_at (putC (putC p 0 (p.c 1)) 1 (p.c 0)).c (by omega)
      rw [e, c0] at this
      exact s1 this
    · have := cnt_at (putC (putC p 0 (p.c 1)) 1 (p.c 0)).c (by omega)
      rw [e, c1] at this
      exact s0 this
  have := ((okAt_in hc).1 ho).2 (by omega)
  rw [show (1 : Nat) - 1 = 0 from rfl, c0, c1] at this
  rw [slt_asymm lt] at this
  cases this
/-- What the law does to a leaf. -/
def spoil (kind : Int) (p : Pg) (i : Nat) : Pg := if (kind.tmod 3 + 3).tmod 3 = 0 then { p with n := i } else if (kind.tmod 3 + 3).tmod 3 = 1 then { p with l := 1 } else putC (putC p 0 (p.c 1)) 1 (p.c 0)
theorem Ao.spoilt (h : Ao pg ow H lf ids R) (hH : H ≠ 0) {i : Nat} (hi : i ∈ lf) (hl : (pg i).l = 0) (hid : i ∈ ids) (kind : Int) : ¬ Fine (upd pg i (spoil kind (pg i) i)) 80 80 vst vkd vrt ow := by
  have ix := h.tv.ix
  have hlen := ix.len
  have i2 : i ≠ 2 := fun e => h.two (by rw [← e]; exact hid)
  have hs : ∀ j, j ≠ i → upd pg i (spoil kind (pg i) i) j = pg j := fun j hj => if_neg hj
  have hx : upd pg i (spoil kind (pg i) i) i = spoil kind (pg i) i := if_pos rfl
  have look := vol_look (pg := upd pg i (spoil kind (pg i) i)) ((hs 2 (Ne.symm i2)).trans h.heap)
  have tr : Tr kL (NN pg) H 3 none none lf ids R := ix.tr
  suffices hz : treeF (upd pg i (spoil kind (pg i) i)) 80 2 ⟨[2, 1, 0], []⟩ 3 = none by
    rintro ⟨s, h3, -⟩
    rw [look, hz] at h3
    cases h3
  unfold spoil at *
  by_cases k0 : (kind.tmod 3 + 3).tmod 3 = 0
  · simp only [if_pos k0] at *
    have same : ∀ j, ndOf (upd pg i { pg i with n := (i : Int) } j) = ndOf (pg j) := fun j => by
      by_cases e : j = i
      · subst e; rw [hx]; rfl
      · rw [hs j e]
    have en : NN (upd pg i { pg i with n := (i : Int) }) = NN pg := funext same
    have l2 := tree_look (pg := upd pg i { pg i with n := (i : Int) }) (N := 80) (sn := 2) (by rw [en]; exact tr) (by rw [en]; exact h.room) (fun j hj => by
      by_cases e : j = i
      · subst e
        have p := ix.pgs j hj
        exact ⟨p.lt, by rw [hx]; exact p.nd, by rw [hx]; exact p.s⟩
      · have p := ix.pgs j hj
        exact ⟨p.lt, by rw [hs j e]; exact p.nd, by rw [hs j e]; exact p.s⟩) ix.nd ⟨[2, 1, 0], []⟩ h.fresh (by show 3 + ids.length ≤ 1024; omega)
    rw [l2, if_neg]
    rw [show (⟨[2, 1, 0], []⟩ : LkS).lv = [] from rfl, List.nil_append, lvs_own (x := i) (by have := (ix.pgs i hid).two; omega) (by rw [hx]) lf ix.lf_nd hi]
    decide
  · simp only [if_neg k0] at *
    by_cases k1 : (kind.tmod 3 + 3).tmod 3 = 1
    · simp only [if_pos k1] at *
      exact tree_bad hs (.inl (by rw [hx]; show (1 : Int) ≠ 0; decide)) tr hi hl hH _
    · simp only [if_neg k1] at *
      refine tree_bad hs (.inr ?_) tr hi hl hH _
      rw [hx]
      have := ix.ff trivial i hid (h.not_root hH hl)
      exact swap_bad (ix.pgs i hid).nd (by omega)
/-- A put that takes. -/
theorem Ao.put {pg' : Nat → Pg} {ow' : Nat → Option Int} {H' : Nat} {lf' ids' : List Nat} {R' R0 : List (ByteArray × Ce)} {keep : List ByteArray} {news : List Nat} {k : ByteArray} {c : Ce} (h : Ao pg ow H lf ids R) (ht : Tv pg' 80 vst vkd vrt ow' 2 H' lf' ids' R' (True ∧ ∀ x, x ∈ R → x.2.st = 1)) (hl : RLess R R0 keep) (hi : RIns R0 R' k c) (hc : c.st = 1)
    (hp : ids'.Perm (news ++ ids)) (hn : ∀ i, i ∈ news → ow i = none) (ho : ∀ i, i ∉ news → ow' i = ow i) (hpg : ∀ i, i ≠ 1 → i ∉ ids → i ∉ news → pg' i = pg i) : Ao pg' ow' H' lf' ids' R' := by
  have n2 : 2 ∉ news := fun hm => by
    have := hn 2 hm
    rw [h.o2] at this
    cases this
  have mem : ∀ i, i ∈ ids' ↔ i ∈ news ∨ i ∈ ids := fun i => by rw [hp.mem_iff, List.mem_append]
  have ix' := ht.ix.weak (ff' := True) fun _ => ⟨trivial, h.live⟩
  refine ⟨⟨ht.vol, ht.s1, ht.st, ht.kd, ix'⟩, fun i hi => ?_, by rw [hpg 2 (by omega) h.two n2]; exact h.heap, by rw [ho 2 n2]; exact h.o2, fun i hi hs => ?_, fun x hx => ?_⟩
  · by_cases e1 : i = 1
    · subst e1; exact ht.vol.m.ok
    · by_cases e2 : i ∈ ids'
      · exact (ix'.pgs i e2).ok
      · rw [mem, not_or] at e2
        rw [hpg i e1 e2.2 e2.1]
        exact h.ok i hi
  · by_cases e : i ∈ news
    · exact .inr (.inr ((mem i).2 (.inl e)))
    · rw [ho i e] at hs
      rcases h.own i hi hs with h1 | h1 | h1
      · exact .inl h1
      · exact .inr (.inl h1)
      · exact .inr (.inr ((mem i).2 (.inr h1)))
  · rcases (hi.mem x).1 hx with e | e
    · rw [e]; exact hc
    · exact h.live x (hl.1 x e)
end
end Go.Proofs.Ytelbioooggnbiaa
namespace Go.Proofs.Ytelbioooggnbiaa
open Go.RowKit Go.Maps Go.ChangeShapes Go.WideShapes Go.ChangeAt Go.Deep

section
variable {H : Type} {enc : TypeId × Value → H} {w : World} {base : Nat} {held : Bool}
/-- A slice whose elements have C cells each. -/
theorem rows_trod {P : Program} {t e : TypeId} {C : Nat} {fuel : Nat} {v : Value} {x : DataW H × List MemPlace} (ht : P.underlying t = some (.slice e)) (hC : P.cellsOf e = C) (h0 : 0 < C)
    (h : DataW.trod enc P w base (fun _ => true) held fuel t [v] = some x) :
    ∃ a len cap, v = .slice a len cap ∧ len ≤ cap ∧ cap ≤ maxLen ∧ SzOf x.1 cap ∧ (a = none → len = 0 ∧ cap = 0) ∧ ∃ L : Nat → List Value, (∀ i, i < len → (L i).length = C ∧ ∃ n y, DataW.trod enc P w base (fun _ => true) held n e (L i) = some y) ∧
      (0 < len → ∃ b off, a = some (⟨b, off, none⟩ : Addr) ∧ b < w.heap.size ∧ ∀ i j u, i < len → (L i)[j]? = some u → w.cell? ⟨b, off + i * C + j, none⟩ = some u) := by
  rcases open_slice ht h with ⟨hcs, rfl⟩ | ⟨y, len, cap, m, n, D, Pl, hcs, hb, hl, hm, hmm, hx, hi⟩
  · simp at hcs
    exact ⟨none, 0, 0, hcs, Nat.le_refl _, Nat.zero_le _, .inl rfl, (fun _ => ⟨rfl, rfl⟩), fun _ => [], fun i hi => absurd hi (Nat.not_lt_zero i), fun h => absurd h (Nat.lt_irrefl 0)⟩
  · simp at hcs
    simp only [if_true] at hmm
    obtain rfl : cap = m := by omega
    have hall : ∀ i, ∃ l : List Value, i < len → l.length = C ∧ (∃ n y, DataW.trod enc P w base (fun _ => true) held n e l = some y) ∧ ∀ j, j < C → w.cell? (y.add (i * C + j)) = l[j]? := by
      intro i
      by_cases hil : i < len
      · have hh := hi i (by omega)
        rw [hC] at hh
        obtain ⟨cs', hc, ht'⟩ := hh
        obtain ⟨_, hcl, hat⟩ := World.cells?_some hc
        exact ⟨cs', fun _ => ⟨hcl, ⟨_, _, ht'⟩, fun j hj => by rw [← add_add]; exact hat j hj⟩⟩
      · exact ⟨[], fun h => absurd h hil⟩
    refine ⟨some y, len, cap, hcs, hl, hm, (.inr ⟨_, _, by rw [hx], by simp; omega⟩), (fun h => by cases h), fun i => (hall i).choose, fun i hil => ⟨((hall i).choose_spec hil).1, ((hall i).choose_spec hil).2.1⟩, fun hlen => ?_⟩
    obtain ⟨b, off, e1, hlt, hc⟩ := mk_at (size := C) (len := len) (f := fun i j => ((hall i).choose)[j]?.getD .nilIface) hlen h0 (fun i j hi' hj => by
      obtain ⟨g1, _, g3⟩ := (hall i).choose_spec hi'
      rw [g3 j hj]
      have : j < (hall i).choose.length := by omega
      rw [List.getElem?_eq_getElem this]
      rfl)
    refine ⟨b, off, e1, hlt, fun i j u hi' hu => ?_⟩
    have hjl := (List.getElem?_eq_some_iff.1 hu).1
    have := hc i j hi' (by rw [((hall i).choose_spec hi').1] at hjl; exact hjl)
    rw [Nat.add_assoc, this, hu]
    rfl
theorem len_ex {α : Type} {l : List α} {n : Nat} (h : l.length = n) : ∀ i, i < n → ∃ y, l[i]? = some y := fun i hi => ⟨_, List.getElem?_eq_getElem (by omega)⟩
/-- Keys in a cell that holds a slice. -/
theorem keys_trod {fuel : Nat} {v : Value} {x : DataW H × List MemPlace} (h : DataW.trod enc Try.prog w base (fun _ => true) held fuel 37 [v] = some x) :
    ∃ l : List ByteArray, SRow w v l ∧ ∀ k, k ∈ l → k.size ≤ maxLen := by
  obtain ⟨a, len, cap, hve, h1, h2, _, hnil, L, hL, hat⟩ := rows_trod (C := 1) Try.underlying37 (by kernel_rfl) (by omega) h
  have hk : ∀ i, ∃ s : ByteArray, i < len → L i = [.string s] ∧ s.size ≤ maxLen := by
    intro i
    by_cases hi : i < len
    · obtain ⟨hlen, n, y, ht⟩ := hL i hi
      match hq : L i, hlen with
      | [u], _ =>
        rw [hq] at ht
        obtain ⟨s, hs, _, hz⟩ := DataW.trod_string Try.underlying9 ht
        exact ⟨s, fun _ => ⟨by simpa using hs, hz⟩⟩
    · exact ⟨⟨#[]⟩, fun h => absurd h hi⟩
  have hll : ((List.range len).map fun i => (hk i).choose).length = len := by simp
  refine ⟨(List.range len).map fun i => (hk i).choose, ⟨by rw [hll]; omega, a, cap, by rw [hll]; exact hve, ?_⟩, fun k hkm => ?_⟩
  · rcases Nat.eq_zero_or_pos len with h0 | h0
    · exact .inl (List.eq_nil_of_length_eq_zero (by rw [hll]; exact h0))
    · obtain ⟨b, off, e, hlt, hc⟩ := hat h0
      refine .inr ⟨b, off, e, hlt, fun j hj => ?_⟩
      rw [hll] at hj
      have := hc j 0 (.string (hk j).choose) hj (congrArg (fun l : List Value => l[0]?) ((hk j).choose_spec hj).1)
      rw [Nat.mul_one, Nat.add_zero] at this
      rw [this]
      simp [List.getD_eq_getElem?_getD, hj]
  · obtain ⟨i, hi, rfl⟩ := List.mem_map.1 hkm
    exact ((hk i).choose_spec (List.mem_range.1 hi)).2
set_option maxRecDepth 100000 in
theorem read_keys {r : Reach} {b0 : Nat} {d : DataW H} {p : List MemPlace} {v : Value}
    (hv : Value.okWide Try.prog w r b0 37 v) (h : DataW.Trod enc Try.prog w base (fun _ => true) held 37 v d p) : ∃ l : List ByteArray, SRow w v l ∧ ∀ k, k ∈ l → k.size ≤ maxLen := by
  obtain ⟨fuel, hf⟩ := h
  obtain ⟨a0, len0, cap0, rfl⟩ := okWide_slice Try.underlying37 hv
  exact keys_trod hf
def KsIn (w : World) (v : Value) (l : List ByteArray) : Prop := SRow w v l ∧ ∀ k, k ∈ l → k.size ≤ maxLen
theorem KsIn.kept {w w' : World} {v : Value} {l : List ByteArray} (h : KsIn w v l) (hb : Below w.heap.size w w') : KsIn w' v l := ⟨h.1.kept hb, h.2⟩
set_option maxRecDepth 100000 in
theorem read_ks {r : Reach} {b0 : Nat} {d : DataW H} {p : List MemPlace} {v : Value}
    (hv : Value.okWide Try.prog w r b0 37 v) (h : DataW.Trod enc Try.prog w base (fun _ => true) held 37 v d p) : ∃ l : List ByteArray, KsIn w v l := by
  obtain ⟨l, h1, h2⟩ := read_keys hv h
  exact ⟨l, h1, h2⟩
end
/-- Between the puts. -/
structure AoS (w0 w : World) (g b gs r : Nat) : Prop where
  ex : ∃ pg ow H lf ids R, SV w w0.heap.size g b gs r 80 0 pg pg ∧ Ao pg ow H lf ids R
  kp : Below w0.heap.size w0 w
/-- Behind a put. -/
structure AoP (w0 w : World) (g b gs r : Nat) (er : Int) : Prop where
  ex : ∃ M und pg ow H lf ids R, SV w w0.heap.size g b gs r 80 M und pg ∧ Ao (landed er und pg) ow H lf ids R
  kp : Below w0.heap.size w0 w
section
variable {w0 w w' : World} {g b gs r : Nat}
theorem AoS.kept (h : AoS w0 w g b gs r) (hb : Below w.heap.size w w') : AoS w0 w' g b gs r := by
  obtain ⟨pg, ow, H, lf, ids, R, h1, h2⟩ := h.ex
  exact ⟨⟨pg, ow, H, lf, ids, R, h1.kept hb, h2⟩, below_then h.kp hb h.kp.size⟩
theorem AoP.alloc {er : Int} (h : AoP w0 w g b gs r er) (o : Obj) : AoP w0 (w.alloc o) g b gs r er := by
  obtain ⟨M, und, pg, ow, H, lf, ids, R, h1, h2⟩ := h.ex
  exact ⟨⟨M, und, pg, ow, H, lf, ids, R, h1.alloc o, h2⟩, h.kp.alloc h.kp.size o⟩
theorem ao_check (h : AoS w0 w g b gs r) : Calls Try.prog 7 #[.pointer (some ⟨g, 0, none⟩)] w fun e w' => e = .returned (.int .i64 0) ∧ Below w.heap.size w w' := by
  obtain ⟨pg, ow, H, lf, ids, R, h1, h2⟩ := h.ex
  refine (check_vol h1 h2.ok h2.tv.vol (Nat.le_refl _)).mono ?_
  rintro e w' ⟨er, rfl, he, -, hb⟩
  rw [he.2 h2.fine]
  exact ⟨rfl, hb⟩
theorem ao_land {er : Int} (h : AoP w0 w g b gs r er) : Calls Try.prog 10 #[.pointer (some ⟨gs, 0, none⟩), .pointer (some ⟨g, 0, none⟩), .int .i64 er] w fun e w' => e = .returned (.tuple #[]) ∧ AoS w0 w' g b gs r := by
  obtain ⟨M, und, pg, ow, H, lf, ids, R, h1, h2⟩ := h.ex
  exact (land22 h1 h.kp er).mono fun e w' ⟨a, c, d, _⟩ => ⟨a, ⟨_, ow, H, lf, ids, R, c, h2⟩, d⟩
theorem ao_put (h : AoS w0 w g b gs r) (k : ByteArray) (hk : k.size ≤ maxLen) :
    Calls Try.prog 16 #[.pointer (some ⟨g, 0, none⟩), .int .i64 2, .string k, .string ⟨#[]⟩, .slice none 0 0] w fun e w' => ∃ (u : Ud) (er : Int), e = .returned (.tuple #[.agg u.cs, .int .i64 er]) ∧ AoP w0 w' g b gs r er := by
  obtain ⟨pg, ow, H, lf, ids, R, h1, h2⟩ := h.ex
  have no : ∀ (w' : World) (er : Int), er ≠ 0 → Below w.heap.size w w' → AoP w0 w' g b gs r er := fun w' er hne hb =>
    ⟨⟨0, pg, pg, ow, H, lf, ids, R, h1.kept hb, by unfold landed; rw [if_neg hne]; exact h2⟩, below_then h.kp hb h.kp.size⟩
  refine (tput_any h1 (Nat.le_refl _) h2.tv (by decide) k ⟨#[]⟩ hk (by unfold maxLen; decide) (.slice none 0 0) [] (SRow.nil w)).mono ?_
  rintro e w' (⟨hx, rfl, hb⟩ | ⟨-, hx, -, -⟩ | ⟨hk, -, hp⟩)
  · exact ⟨_, _, rfl, no w' _ (by decide) hb⟩
  · exact absurd hx (by decide)
  · rcases hp with ⟨-, rfl, hb⟩ | ⟨c, R', pg', hm, hc, -⟩ | ⟨-, hg, hp⟩
    · exact ⟨_, _, rfl, no w' _ (by decide) hb⟩
    · exact absurd (h2.live _ hm) hc
    · have hb := h1.touch h.kp rfl hg (.inl rfl)
      rcases hp with ⟨rfl, -, pgx, hs⟩ | ⟨rfl, pg', ow', H', lf', ids', R', R0, news, hs, ht, hl, hi, ⟨hpm, -⟩, hn, ho, hpg⟩
      · exact ⟨_, _, rfl, ⟨_, pg, pgx, ow, H, lf, ids, R, hs, by unfold landed; rw [if_neg (by decide)]; exact h2⟩, hb⟩
      · exact ⟨_, _, rfl, ⟨_, pg, pg', ow', H', lf', ids', R', hs, by unfold landed; rw [if_pos rfl]; exact h2.put ht hl hi rfl hpm hn ho hpg⟩, hb⟩
end
end Go.Proofs.Ytelbioooggnbiaa
