/- Layer 16: the law's own volume and land. Layer 16: a change of the index, as the laws see it; the law's own do. Layer 16: the law's own do, walked. Layer 16: the package's calls, as the laws' volume takes them. Layer 16: awake, and wrong. Layer 16: calls and keys that came in. -/
import Derived.Test.YtaiiimlmkigajaaGreatTrPut
import Derived.Test.YtaiiimlmkigajaaGreatTrRange
import Derived.Test.YtaiiimlmkigajaaGreatStgLand
import Derived.Test.YtaiiimlmkigajaaGreatRead
set_option linter.unusedVariables false
set_option linter.unusedSimpArgs false
namespace Go.Proofs.YtaiiimlmkigajaaGreat
open Go.RowKit Go.Maps

theorem SV.r_ge {w : World} {B g b gs r N M : Nat} {und pg : Nat → Pg} (h : SV w B g b gs r N M und pg) : B ≤ r := by
  obtain ⟨m, ps, l, h0, _⟩ := h.ex
  exact h0.sh.br
theorem landed_ne {er : Int} (h : er ≠ 0) (und pg : Nat → Pg) : landed er und pg = und := if_neg h
def pvT (n : Int) : Nat → Pg := upd (upd pz 0 dir0) 1 (mapN n)
def st1 : Nat → Int := put (fun _ => 0) 0 1
def kd1 : Nat → Nat := put (fun _ => 0) 0 2
def rt1 : Nat → Nat := put (fun _ => 0) 0 2
/-- A volume with an index, whose pages are the directory's, the map's, and the index's. -/
structure Tl (pg : Nat → Pg) (n : Nat) (H : Nat) (ids : List Nat) (R : List (ByteArray × Ce)) (ff : Prop) : Prop where
  ex : ∃ ow lf kd, Tv pg n st1 kd rt1 ow 1 H lf ids R ff ∧ ∀ i, i < n → (ow i).isSome = true → i < 2 ∨ i ∈ ids
theorem newPg_nd : nodeOk (newPg 2 0) := by
  have := mk_node (newPg 2 0) 0 (by omega) rfl (by decide) (fun h => absurd h (by decide)) (fun q hq => absurd hq (Nat.not_lt_zero q)) (fun q _ _ => ⟨rfl, rfl⟩) (fun q hq => absurd hq (Nat.not_lt_zero _))
  exact nodeOk_of this.1
theorem newPg_cnt : cnt (newPg 2 0).c = 0 := cnt_eq _ 0 (by omega) (fun q hq => absurd hq (Nat.not_lt_zero q)) (fun _ => rfl)
theorem tl_new (n : Nat) (h1 : 4 ≤ n) (h2 : n ≤ 1024) : Tl (upd (upd (upd (pvT n) 1 (mrk (mapN n) 2 true)) 2 (newPg 2 0)) 0 (putC dir0 0 ⟨1, stoD 2 2⟩)) n 0 [2] [] True := by
  have hv := (vol_new pz n h1 h2).make 0 2 (by omega) (by omega) (by omega) 2 (by omega)
  refine ⟨_, [2], kd1, ⟨hv, by omega, put_at _ _ _, .inl (put_at _ _ _), ⟨?_, by simp, fun i hi => ?_, rfl, fun _ i hi hr => ?_, h2⟩⟩, fun i hi ho => ?_⟩
  · have e2 : (upd (upd (upd (pvT n) 1 (mrk (mapN n) 2 true)) 2 (newPg 2 0)) 0 (putC dir0 0 ⟨1, stoD 2 2⟩)) 2 = newPg 2 0 := rfl
    have := Tr.leaf (lt := kL) (N := NN (upd (upd (upd (pvT n) 1 (mrk (mapN n) 2 true)) 2 (newPg 2 0)) 0 (putC dir0 0 ⟨1, stoD 2 2⟩))) (id := 2) (a := none) (b := none) rfl (fun q hq => by
      have hq2 : q < cnt (newPg 2 0).c := hq
      rw [newPg_cnt] at hq2; omega) (fun q r _ hr => by
      have hq2 : r < cnt (newPg 2 0).c := hr
      rw [newPg_cnt] at hq2; omega)
    have e3 : (NN (upd (upd (upd (pvT n) 1 (mrk (mapN n) 2 true)) 2 (newPg 2 0)) 0 (putC dir0 0 ⟨1, stoD 2 2⟩)) 2).rows = [] := by
      show (List.range (cnt (newPg 2 0).c)).map _ = []
      rw [newPg_cnt]; rfl
    rw [e3] at this
    exact this
  · obtain rfl : i = 2 := by simpa using hi
    exact ⟨by omega, by omega, newPg_nd, newPg_ok 2 0 (by omega), put_at _ _ _, rfl, fun h => absurd rfl h⟩
  · obtain rfl : i = 2 := by simpa using hi
    exact absurd (show (2 : Nat) = rt1 (1 - 1) from rfl) hr
  · by_cases e : i = 2
    · exact .inr (by simp [e])
    · rw [put_ne _ _ e] at ho
      unfold ow0 at ho
      by_cases h : i < 2
      · exact .inl h
      · rw [if_neg h] at ho; cases ho
theorem make_index {w : World} {B g b gs r N M n : Nat} {und : Nat → Pg} (h : SV w B g b gs r N M und (pvT n)) (hn : n ≤ N) (h1 : 4 ≤ n) (h2 : n ≤ 1024) (hM : M + 2 < maxLen) :
    Calls Tryz.prog 24 #[.pointer (some ⟨g, 0, none⟩), .int .i64 2] w fun e w' => e = .returned (.tuple #[.int .i64 1, .int .i64 0]) ∧ ∃ pg', SV w' B g b gs r N (M + 3) und pg' ∧ Tl pg' n 0 [2] [] True ∧ w.grownBy w' (some b) := by
  have own : ∀ i, i < 1632 → ownB (mapN n) i = decide (i < 2) := fun i hi => mapN_own n h1 h2 i hi
  refine (make_2 h (by omega) hn rfl dir0_ok (mapN_ok n h1 h2) hM).mono ?_
  rintro e w' (⟨hf, _⟩ | ⟨j, _, _, hf, _⟩ | ⟨j, id, hj, h0, hq, hi, hn1, ha, he, hs, hg⟩)
  · exact absurd rfl (hf 0 (by omega))
  · have := hf 2 (by omega)
    rw [show (pvT n) 1 = mapN n from rfl, own 2 (by omega)] at this
    cases this
  · have j0 : j = 0 := by
      rcases Nat.eq_zero_or_pos j with e | e
      · exact e
      · exact absurd rfl (hq 0 e)
    have i2 : id = 2 := by
      rw [show (pvT n) 1 = mapN n from rfl, own id (by omega)] at hn1
      have h3 : ¬ id < 2 := by simpa using hn1
      by_cases h4 : id = 2
      · exact h4
      · have := ha 2 (by omega)
        rw [show (pvT n) 1 = mapN n from rfl, own 2 (by omega)] at this
        cases this
    subst j0; subst i2
    exact ⟨he, _, hs, tl_new n h1 h2, hg⟩
end Go.Proofs.YtaiiimlmkigajaaGreat
namespace Go.Proofs.YtaiiimlmkigajaaGreat
open Go.RowKit Go.Maps

/-- A key's cell is another one, and some ghosts that needn't be kept are gone. -/
def Did (R R' : List (ByteArray × Ce)) (k : ByteArray) (c : Ce) (keep : List ByteArray) : Prop :=
  (k, c) ∈ R' ∧ (∀ x, x ∈ R' → x = (k, c) ∨ (x ∈ R ∧ x.1 ≠ k)) ∧ ∀ x, x ∈ R → x.1 ≠ k → x ∈ R' ∨ (x.2.st = 2 ∧ x.1 ∉ keep)
theorem RSet.did {R R' : List (ByteArray × Ce)} {k : ByteArray} {c : Ce} (h : RSet R R' k c) (keep : List ByteArray) : Did R R' k c keep :=
  ⟨(h _).2 (.inl rfl), fun x hx => (h x).1 hx, fun x hx hk => .inl ((h x).2 (.inr ⟨hx, hk⟩))⟩
theorem RIns.did {R R0 R' : List (ByteArray × Ce)} {k : ByteArray} {c : Ce} {keep : List ByteArray} (h : RIns R0 R' k c) (hl : RLess R R0 keep) (hn : ∀ c, (k, c) ∉ R) : Did R R' k c keep := by
  refine ⟨(h.mem _).2 (.inl rfl), fun x hx => ?_, fun x hx hk => ?_⟩
  · rcases (h.mem x).1 hx with e | e
    · exact .inl e
    · refine .inr ⟨hl.1 x e, fun e2 => hn x.2 ?_⟩
      rw [← e2]; exact hl.1 x e
  · by_cases e : x ∈ R0
    · exact .inl ((h.mem x).2 (.inr e))
    · exact .inr (hl.2 x hx e)
section
variable {pg : Nat → Pg} {n H : Nat} {ids : List Nat} {R : List (ByteArray × Ce)} {ff : Prop}
theorem Tl.sorted (h : Tl pg n H ids R ff) : R.Pairwise fun x y => kL x.1 y.1 := by obtain ⟨ow, lf, kd, ht, -⟩ := h.ex; exact ht.ix.sorted
theorem Tl.nodup (h : Tl pg n H ids R ff) : R.Nodup := h.sorted.imp fun {a b} hab e => by subst e; exact kOrd.irr _ hab
theorem Tl.row (h : Tl pg n H ids R ff) {x : ByteArray × Ce} (hx : x ∈ R) : x.2.key = x.1 ∧ leafCellOk x.2 := by obtain ⟨ow, lf, kd, ht, -⟩ := h.ex; exact ht.ix.row hx
theorem Tl.one (h : Tl pg n H ids R ff) {k : ByteArray} {c d : Ce} (h1 : (k, c) ∈ R) (h2 : (k, d) ∈ R) : c = d := rows_one kOrd h.sorted h1 h2
theorem Tl.weak {ff' : Prop} (h : Tl pg n H ids R ff) (hf : ff' → ff) : Tl pg n H ids R ff' := by
  obtain ⟨ow, lf, kd, ht, ho⟩ := h.ex
  exact ⟨ow, lf, kd, ⟨ht.vol, ht.s1, ht.st, ht.kd, ht.ix.weak hf⟩, ho⟩
theorem Tl.grow {pg' : Nat → Pg} {H' : Nat} {ids' : List Nat} {R' : List (ByteArray × Ce)} {k : ByteArray} {c : Ce} {keep : List ByteArray} (h : Tl pg n H ids R ff) (h' : Tl pg' n H' ids' R' ff) (hd : Did R R' k c keep) : R'.length ≤ R.length + 1 := by
  have := nodup_len_le R' ((k, c) :: R) h'.nodup (fun x hx => by
    rcases hd.2.1 x hx with e | e
    · rw [e]; exact List.mem_cons_self
    · exact List.mem_cons_of_mem _ e.1)
  simpa using this
/-- With few rows there are few pages. -/
theorem Tl.room (h : Tl pg n H ids R True) {kd : Nat → Nat} {ow : Nat → Option Int} {lf : List Nat} (ho : Tv pg n st1 kd rt1 ow 1 H lf ids R True ∧ ∀ i, i < n → (ow i).isSome = true → i < 2 ∨ i ∈ ids) {nn : List Nat} (h1 : nn.length ≤ H + 1) (h2 : ∀ i, i < n → (ow i).isSome = true ∨ i ∈ nn) (hR : R.length ≤ 60) : n ≤ 40 ∧ (R.length ≤ 1 → n ≤ 4) := by
  obtain ⟨ht, hown⟩ := ho
  have f := ht.ix.tr.few_root ht.ix.nd (fun i hi hl => (ht.ix.pgs i hi).fl (fun e => hl (by show (pg i).l.toNat = 0; rw [e]; rfl))) (fun i hi hr => ht.ix.ff trivial i hi hr)
  have m := ht.ix.tr.many fun i hi hl => (ht.ix.pgs i hi).fl (fun e => hl (by show (pg i).l.toNat = 0; rw [e]; rfl))
  have s := ht.ix.tr.lf_sub.length_le
  have c := nodup_len_le (List.range n) (0 :: 1 :: (ids ++ nn)) List.nodup_range (fun x hx => by
    have hx := List.mem_range.1 hx
    simp only [List.mem_cons, List.mem_append]
    rcases h2 x hx with h3 | h3
    · rcases hown x hx h3 with h4 | h4
      · rcases (show x = 0 ∨ x = 1 by omega) with e | e
        · exact .inl e
        · exact .inr (.inl e)
      · exact .inr (.inr (.inl h4))
    · exact .inr (.inr (.inr h3)))
  simp only [List.length_range, List.length_cons, List.length_append] at c
  have i30 : ids.length ≤ 30 := by omega
  have H4 : H ≤ 4 := by
    by_cases e : H ≤ 4
    · exact e
    · have : 2 ^ 5 ≤ 2 ^ H := Nat.pow_le_pow_right (by decide) (by omega)
      omega
  refine ⟨by omega, fun h1' => ?_⟩
  have i1 : ids.length ≤ 1 := by omega
  have H0 : H = 0 := by
    rcases Nat.eq_zero_or_pos H with e | e
    · exact e
    · have : 2 ^ 1 ≤ 2 ^ H := Nat.pow_le_pow_right (by decide) e
      omega
  omega
end
/-- What a change of the index does. -/
def Step16 (R : List (ByteArray × Ce)) (keep : List ByteArray) (k : ByteArray) (u : Ud) (R' : List (ByteArray × Ce)) : Prop :=
  (u = ud0 ∧ R' = R) ∨ ∃ (c0 c : Ce), u = udK 1 k c0 ∧ keyOk k ∧ (leafCellOk c ∧ c.key = k) ∧ ((c0 = czero ∧ ∀ d, (k, d) ∉ R) ∨ (k, c0) ∈ R) ∧ Did R R' k c keep
def Mid16 (w : World) (B g b gs r N M n : Nat) (und : Nat → Pg) (R : List (ByteArray × Ce)) (ff : Prop) (keep : List ByteArray) (k : ByteArray) (u : Ud) (er : Int) (w' : World) : Prop :=
  w.grownBy w' (some b) ∧ ∃ pg', SV w' B g b gs r N (M + 40) und pg' ∧ ((er ≠ 0 ∧ u = ud0) ∨ (er = 0 ∧ ∃ H' ids' R', Tl pg' n H' ids' R' (ff ∧ ∀ x, x ∈ R → x.2.st = 1) ∧ Step16 R keep k u R'))
section
variable {w w' : World} {B g b gs r N M n H : Nat} {und pg : Nat → Pg} {ids lf : List Nat} {R : List (ByteArray × Ce)} {ff : Prop} {ow : Nat → Option Int} {kd : Nat → Nat}
theorem mid_same (h : SV w B g b gs r N M und pg) (hb : Below w.heap.size w w') {er : Int} (he : er ≠ 0) (keep : List ByteArray) (k : ByteArray) : Mid16 w B g b gs r N M n und R ff keep k ud0 er w' :=
  ⟨only_below hb _, pg, (h.kept hb).mono (by omega), .inl ⟨he, rfl⟩⟩
theorem mid_chg {k : ByteArray} {new : Ce → Ce} {e : Ending} (h : SV w B g b gs r N M und pg) (ho : ∀ i, i < n → (ow i).isSome = true → i < 2 ∨ i ∈ ids) (hk : keyOk k) (keep : List ByteArray) (hn : ∀ c, (k, c) ∈ R → leafCellOk (new c) ∧ (new c).key = k) (hp : ChgP w B g b gs r N M n und pg st1 kd rt1 ow 1 H lf ids R ff k new e w') :
    ∃ (u : Ud) (er : Int), e = .returned (.tuple #[.agg u.cs, .int .i64 er]) ∧ Mid16 w B g b gs r N M n und R ff keep k u er w' := by
  rcases hp with ⟨h1, rfl, hb⟩ | ⟨c, R', pg', h1, h2, rfl, hs, ht, hr, hg, -⟩
  · exact ⟨ud0, 150, rfl, mid_same h hb (by decide) keep k⟩
  · exact ⟨_, 0, rfl, hg, pg', hs.mono (by omega), .inr ⟨rfl, H, ids, R', ⟨ow, lf, kd, ⟨ht.vol, ht.s1, ht.st, ht.kd, ht.ix.weak (fun h => h.1)⟩, ho⟩, .inr ⟨c, new c, rfl, hk, hn c h1, .inr h1, hr.did keep⟩⟩⟩
theorem mid_set {k val : ByteArray} {e : Ending} (h : SV w B g b gs r N M und pg) (ho : ∀ i, i < n → (ow i).isSome = true → i < 2 ∨ i ∈ ids) (keep : List ByteArray) (hp : TSetPost w B g b gs r N M n und pg st1 kd rt1 ow 1 H lf ids R ff k val e w') :
    ∃ (u : Ud) (er : Int), e = .returned (.tuple #[.agg u.cs, .int .i64 er]) ∧ Mid16 w B g b gs r N M n und R ff keep k u er w' := by
  rcases hp with ⟨-, rfl, hb⟩ | ⟨-, -, rfl, hb⟩ | ⟨hk, hv, hp⟩
  · exact ⟨ud0, 1, rfl, mid_same h hb (by decide) keep k⟩
  · exact ⟨ud0, 2, rfl, mid_same h hb (by decide) keep k⟩
  · exact mid_chg h ho hk keep (fun c _ => ⟨(leaf_cell_ok hk hv (.inl rfl)).1, (leaf_cell_ok hk hv (.inl rfl)).2.1⟩) hp
theorem mid_cut {k : ByteArray} {e : Ending} (h : SV w B g b gs r N M und pg) (ht : Tv pg n st1 kd rt1 ow 1 H lf ids R ff) (ho : ∀ i, i < n → (ow i).isSome = true → i < 2 ∨ i ∈ ids) (keep : List ByteArray) (hp : TCutPost w B g b gs r N M n und pg st1 kd rt1 ow 1 H lf ids R ff k e w') :
    ∃ (u : Ud) (er : Int), e = .returned (.tuple #[.agg u.cs, .int .i64 er]) ∧ Mid16 w B g b gs r N M n und R ff keep k u er w' := by
  rcases hp with ⟨-, rfl, hb⟩ | ⟨hk, hp⟩
  · exact ⟨ud0, 1, rfl, mid_same h hb (by decide) keep k⟩
  · exact mid_chg h ho hk keep (fun c hc => by
      obtain ⟨e1, e2⟩ := ht.ix.row hc
      exact ⟨(ghost_ok e2).1, (ghost_ok e2).2.1.trans e1⟩) hp
theorem mid_put {k val : ByteArray} {keep : List ByteArray} {e : Ending} (h : SV w B g b gs r N M und pg) (ho : ∀ i, i < n → (ow i).isSome = true → i < 2 ∨ i ∈ ids) (hp : PutP w B g b gs r N M n und pg st1 kd rt1 ow 1 H lf ids R ff k val keep e w') :
    ∃ (u : Ud) (er : Int), e = .returned (.tuple #[.agg u.cs, .int .i64 er]) ∧ Mid16 w B g b gs r N M n und R ff keep k u er w' := by
  rcases hp with ⟨-, rfl, hb⟩ | ⟨-, -, rfl, hb⟩ | ⟨hk, hv, hp⟩
  · exact ⟨ud0, 1, rfl, mid_same h hb (by decide) keep k⟩
  · exact ⟨ud0, 2, rfl, mid_same h hb (by decide) keep k⟩
  have lc := leaf_cell_ok hk hv (.inl rfl : (1 : Int) = 1 ∨ (1 : Int) = 2)
  rcases hp with ⟨-, rfl, hb⟩ | ⟨c, R', pg', h1, h2, rfl, hs, ht, hr, hg, -⟩ | ⟨hab, hg, hp⟩
  · exact ⟨ud0, 160, rfl, mid_same h hb (by decide) keep k⟩
  · exact ⟨_, 0, rfl, hg, pg', hs.mono (by omega), .inr ⟨rfl, H, ids, R', ⟨ow, lf, kd, ⟨ht.vol, ht.s1, ht.st, ht.kd, ht.ix.weak (fun h => h.1)⟩, ho⟩, .inr ⟨c, _, rfl, hk, ⟨lc.1, lc.2.1⟩, .inr h1, hr.did keep⟩⟩⟩
  · rcases hp with ⟨rfl, -, pgx, hs⟩ | ⟨rfl, pg', ow', H', lf', ids', R', R0, news, hs, ht, hl, hi, hpm, hnw, hno, -⟩
    · exact ⟨ud0, 140, rfl, hg, pgx, hs, .inl ⟨by decide, rfl⟩⟩
    · refine ⟨_, 0, rfl, hg, pg', hs, .inr ⟨rfl, H', ids', R', ⟨ow', lf', kd, ht, fun i hi2 hs2 => ?_⟩, .inr ⟨czero, _, rfl, hk, ⟨lc.1, lc.2.1⟩, .inl ⟨rfl, hab⟩, hi.did hl hab⟩⟩⟩
      by_cases hin : i ∈ news
      · exact .inr (hpm.1.mem_iff.2 (List.mem_append_left _ hin))
      · rw [hno i hin] at hs2
        rcases ho i hi2 hs2 with h3 | h3
        · exact .inl h3
        · exact .inr (hpm.1.mem_iff.2 (List.mem_append_right _ h3))
end
end Go.Proofs.YtaiiimlmkigajaaGreat
namespace Go.Proofs.YtaiiimlmkigajaaGreat
open Go.RowKit Go.Maps

/-- A call that came in. -/
structure Kl where
  k : Int
  key : ByteArray
  val : ByteArray
  most : Int
  kv : Value
  keep : List ByteArray
def Kl.cs (c : Kl) : Array Value := #[.int .i64 c.k, .string c.key, .string c.val, .int .i64 c.most, c.kv]
structure KlOk (w : World) (c : Kl) : Prop where
  key : c.key.size ≤ maxLen
  val : c.val.size ≤ maxLen
  row : SRow w c.kv c.keep
theorem KlOk.kept {w w' : World} {c : Kl} (h : KlOk w c) (hb : Below w.heap.size w w') : KlOk w' c := ⟨h.key, h.val, h.row.kept hb⟩
theorem Mid16.row {w w0 w' : World} {B g b gs r N M n : Nat} {und : Nat → Pg} {R : List (ByteArray × Ce)} {ff : Prop} {keep : List ByteArray} {k : ByteArray} {u : Ud} {er : Int} {U : Nat} (h : Mid16 w0 B g b gs r N M n und R ff keep k u er w') (hg : w.grownBy w0 none) (hU : w.heap.size ≤ U) (hne : U ≠ g ∧ U ≠ b ∧ U ≠ gs ∧ U ≠ r) (cs : Array Value) : Mid16 w B g b gs r N M n und R ff keep k u er (w'.setRow U cs) := by
  obtain ⟨h1, pg', h2, h3⟩ := h
  exact ⟨only_setRow (only_trans (World.grownBy.but hg (some b)) h1) hU cs, pg', h2.row hne cs, h3⟩
end Go.Proofs.YtaiiimlmkigajaaGreat
namespace Go.Proofs.YtaiiimlmkigajaaGreat
open Go.RowKit Go.Maps

theorem Tl.grow_in {pg pg' : Nat → Pg} {n n' H H' : Nat} {ids ids' : List Nat} {R R' : List (ByteArray × Ce)} {ff ff' : Prop} {x : ByteArray × Ce} (h : Tl pg n H ids R ff) (h' : Tl pg' n' H' ids' R' ff') (hd : ∀ y, y ∈ R' → y = x ∨ y ∈ R) : R'.length ≤ R.length + 1 := by
  have := nodup_len_le R' (x :: R) h'.nodup (fun y hy => by
    rcases hd y hy with e | e
    · rw [e]; exact List.mem_cons_self
    · exact List.mem_cons_of_mem _ e)
  simpa using this
section
variable {w : World} {B g b gs r N M n H : Nat} {und pg : Nat → Pg} {ids : List Nat} {R : List (ByteArray × Ce)} {ff : Prop}
/-- A key is laid where few live keys are. -/
theorem tl_put (h : SV w B g b gs r N M und pg) (hn : n ≤ N) (ht : Tl pg n H ids R True) (hM : M + 40 < maxLen) (hv : ∀ x, x ∈ R → x.2.st = 1) (hR : R.length ≤ 1) (h5 : 4 < n) (k val : ByteArray) (hk : keyOk k) (hs : val.size ≤ 20) (hab : ∀ c, (k, c) ∉ R) :
    Calls Tryz.prog 31 #[.pointer (some ⟨g, 0, none⟩), .int .i64 1, .string k, .string val, .slice none 0 0] w fun e w' => e = .returned (.tuple #[.agg (udK 1 k czero).cs, .int .i64 0]) ∧
      ∃ pg' H' ids' R', SV w' B g b gs r N (M + 40) und pg' ∧ Tl pg' n H' ids' R' True ∧ (∀ x, x ∈ R' ↔ x = (k, ⟨1, dat k val⟩) ∨ x ∈ R) ∧ R'.length ≤ R.length + 1 ∧ w.grownBy w' (some b) := by
  obtain ⟨ow, lf, kd, htv, ho⟩ := ht.ex
  refine (tput_any h hn htv hM k val (by have := hk.2; unfold maxLen; omega) (by unfold maxLen; omega) (.slice none 0 0) [] (SRow.nil w)).mono ?_
  rintro e w' (⟨hx, -, -⟩ | ⟨-, hx, -, -⟩ | ⟨-, -, hp⟩)
  · exact absurd hk hx
  · omega
  rcases hp with ⟨⟨c, hc, -⟩, -, -⟩ | ⟨c, R', pg', h1, -⟩ | ⟨-, hg, hp⟩
  · exact absurd hc (hab c)
  · exact absurd h1 (hab c)
  rcases hp with ⟨-, ⟨nn, h1, h2⟩, -⟩ | ⟨he, pg', ow', H', lf', ids', R', R0, news, hs', ht', hl, hi, hpm, hnw, hno, -⟩
  · have := (ht.room ⟨htv, ho⟩ h1 h2 (by omega)).2 hR
    omega
  · have ht2 : Tl pg' n H' ids' R' True := ⟨ow', lf', kd, ⟨ht'.vol, ht'.s1, ht'.st, ht'.kd, ht'.ix.weak (fun _ => ⟨trivial, hv⟩)⟩, fun i hi2 hs2 => by
      by_cases hin : i ∈ news
      · exact .inr (hpm.1.mem_iff.2 (List.mem_append_left _ hin))
      · rw [hno i hin] at hs2
        rcases ho i hi2 hs2 with h3 | h3
        · exact .inl h3
        · exact .inr (hpm.1.mem_iff.2 (List.mem_append_right _ h3))⟩
    have hm : ∀ x, x ∈ R' ↔ x = (k, ⟨1, dat k val⟩) ∨ x ∈ R := fun x => by
      rw [hi.mem]
      constructor
      · rintro (e | e)
        · exact .inl e
        · exact .inr (hl.1 x e)
      · rintro (e | e)
        · exact .inl e
        · refine .inr (Classical.byContradiction fun h0 => ?_)
          have := (hl.2 x e h0).1
          rw [hv x e] at this; cases this
    exact ⟨he, pg', H', ids', R', hs', ht2, hm, ht.grow_in ht2 (fun y hy => (hm y).1 hy), hg⟩
theorem tl_cut (h : SV w B g b gs r N M und pg) (hn : n ≤ N) (ht : Tl pg n H ids R ff) (hM : M < maxLen) (k : ByteArray) (hk : keyOk k) {c : Ce} (hc : (k, c) ∈ R) (h1 : c.st = 1) :
    Calls Tryz.prog 33 #[.pointer (some ⟨g, 0, none⟩), .int .i64 1, .string k] w fun e w' => e = .returned (.tuple #[.agg (udK 1 k c).cs, .int .i64 0]) ∧
      ∃ pg' R', SV w' B g b gs r N (M + 1) und pg' ∧ Tl pg' n H ids R' ff ∧ RSet R R' k (ghostC c) ∧ w.grownBy w' (some b) := by
  obtain ⟨ow, lf, kd, htv, ho⟩ := ht.ex
  refine (tcut_any h hn htv hM k).mono ?_
  rintro e w' (⟨hx, -, -⟩ | ⟨-, (⟨hx, -, -⟩ | ⟨c', R', pg', h2, h3, he, hs, ht', hr, hg, -⟩)⟩)
  · exact absurd hk hx
  · exact absurd h1 (hx c hc)
  · obtain rfl := ht.one hc h2
    exact ⟨he, pg', R', hs, ⟨ow, lf, kd, ht', ho⟩, hr, hg⟩
theorem tl_get (h : SV w B g b gs r N M und pg) (hn : n ≤ N) (ht : Tl pg n H ids R ff) (k : ByteArray) (hk : keyOk k) {c : Ce} (hc : (k, c) ∈ R) :
    Calls Tryz.prog 59 #[.pointer (some ⟨g, 0, none⟩), .int .i64 1, .string k] w fun e w' => ((c.st = 1 ∧ e = .returned (.tuple #[.string c.rst, .int .i64 0])) ∨ (c.st ≠ 1 ∧ e = .returned (.tuple #[.string ⟨#[]⟩, .int .i64 150]))) ∧ Below w.heap.size w w' := by
  obtain ⟨ow, lf, kd, htv, ho⟩ := ht.ex
  refine (tget_any h hn htv k).mono ?_
  rintro e w' ⟨(⟨hx, -⟩ | ⟨-, c', h2, h3, he⟩ | ⟨-, h2, he⟩), hb⟩
  · exact absurd hk hx
  · obtain rfl := ht.one hc h2
    exact ⟨.inl ⟨h3, he⟩, hb⟩
  · exact ⟨.inr ⟨h2 c hc, he⟩, hb⟩
end
end Go.Proofs.YtaiiimlmkigajaaGreat
namespace Go.Proofs.YtaiiimlmkigajaaGreat
open Go.RowKit Go.Maps

def kyA : ByteArray := ⟨#[97]⟩
def kyB : ByteArray := ⟨#[98]⟩
def vl1 : ByteArray := ⟨#[49]⟩
def vl2 : ByteArray := ⟨#[50]⟩
theorem ky_ok : keyOk kyA ∧ keyOk kyB ∧ kyA ≠ kyB ∧ vl1.size ≤ 20 ∧ vl2.size ≤ 20 := by decide
end Go.Proofs.YtaiiimlmkigajaaGreat
namespace Go.Proofs.YtaiiimlmkigajaaGreat
open Go.RowKit Go.Maps Go.ChangeShapes Go.WideShapes Go.ChangeAt Go.Deep

def in64 (x : Int) : Prop := -9223372036854775808 ≤ x ∧ x ≤ 9223372036854775807
def Kl.zero : Kl := ⟨0, ⟨#[]⟩, ⟨#[]⟩, 0, .slice none 0 0, []⟩
theorem kl_len (c : Kl) : c.cs.toList.length = 5 := rfl
theorem KlOk.sl {w : World} {c : Kl} (h : KlOk w c) : ∃ a m cap, c.kv = .slice a m cap := by
  obtain ⟨-, a, cap, e, -⟩ := h.row
  exact ⟨a, _, cap, e⟩
theorem KlOk.below {w w' : World} {c : Kl} (h : KlOk w c) (hb : Below w.heap.size w w') : KlOk w' c := h.kept hb
section
variable {ops : Array Oper} {rest : List Oper} {o : Oper} {a : Act} {w : World} {Q : Exit → Act → World → Prop}
end
/-- Calls in a slice that came in. -/
structure KlsIn (w : World) (v : Value) (l : List Kl) : Prop where
  at_ : ∃ a c, v = .slice a l.length c ∧ (0 < l.length → ∃ b off, a = some (⟨b, off, none⟩ : Addr) ∧ b < w.heap.size ∧ ∀ i p, l[i]? = some p → w.rangeAt b (off + i * 5) p.cs.toList)
  len : l.length ≤ maxLen
  bd : ∀ i ∈ l, KlOk w i
theorem KlsIn.kept {w w' : World} {v : Value} {l : List Kl} (h : KlsIn w v l) (hb : Below w.heap.size w w') : KlsIn w' v l := by
  obtain ⟨a, c, e, h1⟩ := h.at_
  refine ⟨⟨a, c, e, fun hm => ?_⟩, h.len, fun i hi => (h.bd i hi).kept hb⟩
  obtain ⟨b, off, e1, hlt, hc⟩ := h1 hm
  exact ⟨b, off, e1, Nat.lt_of_lt_of_le hlt hb.size, fun i p hi j u hu => (hb.cell (p := ⟨b, off + i * 5 + j, none⟩) hlt).trans (hc i p hi j u hu)⟩
section
variable {H : Type} {enc : TypeId × Value → H} {w : World} {base : Nat} {held : Bool}
/-- A slice whose elements have C cells each. -/
theorem rows_trod {P : Program} {t e : TypeId} {C : Nat} {fuel : Nat} {v : Value} {x : DataW H × List MemPlace} (ht : P.underlying t = some (.slice e)) (hC : P.cellsOf e = C) (h0 : 0 < C)
    (h : DataW.trod enc P w base (fun _ => true) held fuel t [v] = some x) :
    ∃ a len cap, v = .slice a len cap ∧ len ≤ cap ∧ cap ≤ maxLen ∧ SzOf x.1 cap ∧ (a = none → len = 0 ∧ cap = 0) ∧ ∃ L : Nat → List Value, (∀ i, i < len → (L i).length = C ∧ ∃ n y, DataW.trod enc P w base (fun _ => true) held n e (L i) = some y) ∧
      (0 < len → ∃ b off, a = some (⟨b, off, none⟩ : Addr) ∧ b < w.heap.size ∧ ∀ i j u, i < len → (L i)[j]? = some u → w.cell? ⟨b, off + i * C + j, none⟩ = some u) := by
  rcases open_slice ht h with ⟨hcs, rfl⟩ | ⟨y, len, cap, m, n, D, Pl, hcs, hb, hl, hm, hmm, hx, hi⟩
  · simp at hcs
    exact ⟨none, 0, 0, hcs, Nat.le_refl _, Nat.zero_le _, .inl rfl, (fun _ => ⟨rfl, rfl⟩), fun _ => [], fun i hi => absurd hi (Nat.not_lt_zero i), fun h => absurd h (Nat.lt_irrefl 0)⟩
  · simp at hcs
    simp only [if_true] at hmm
    obtain rfl : cap = m := by omega
    have hall : ∀ i, ∃ l : List Value, i < len → l.length = C ∧ (∃ n y, DataW.trod enc P w base (fun _ => true) held n e l = some y) ∧ ∀ j, j < C → w.cell? (y.add (i * C + j)) = l[j]? := by
      intro i
      by_cases hil : i < len
      · have hh := hi i (by omega)
        rw [hC] at hh
        obtain ⟨cs', hc, ht'⟩ := hh
        obtain ⟨_, hcl, hat⟩ := World.cells?_some hc
        exact ⟨cs', fun _ => ⟨hcl, ⟨_, _, ht'⟩, fun j hj => by rw [← add_add]; exact hat j hj⟩⟩
      · exact ⟨[], fun h => absurd h hil⟩
    refine ⟨some y, len, cap, hcs, hl, hm, (.inr ⟨_, _, by rw [hx], by simp; omega⟩), (fun h => by cases h), fun i => (hall i).choose, fun i hil => ⟨((hall i).choose_spec hil).1, ((hall i).choose_spec hil).2.1⟩, fun hlen => ?_⟩
    obtain ⟨b, off, e1, hlt, hc⟩ := mk_at (size := C) (len := len) (f := fun i j => ((hall i).choose)[j]?.getD .nilIface) hlen h0 (fun i j hi' hj => by
      obtain ⟨g1, _, g3⟩ := (hall i).choose_spec hi'
      rw [g3 j hj]
      have : j < (hall i).choose.length := by omega
      rw [List.getElem?_eq_getElem this]
      rfl)
    refine ⟨b, off, e1, hlt, fun i j u hi' hu => ?_⟩
    have hjl := (List.getElem?_eq_some_iff.1 hu).1
    have := hc i j hi' (by rw [((hall i).choose_spec hi').1] at hjl; exact hjl)
    rw [Nat.add_assoc, this, hu]
    rfl
theorem int_in {x : Int} (h : (Lit.int .i64 x).wf = true) : in64 x := by
  have : -9223372036854775808 ≤ x ∧ x ≤ 9223372036854775807 := by simpa [Lit.wf, IntKind.min, IntKind.max, IntKind.signed, IntKind.bits] using h
  exact this
theorem len_ex {α : Type} {l : List α} {n : Nat} (h : l.length = n) : ∀ i, i < n → ∃ y, l[i]? = some y := fun i hi => ⟨_, List.getElem?_eq_getElem (by omega)⟩
/-- Keys in a cell that holds a slice. -/
theorem keys_trod {fuel : Nat} {v : Value} {x : DataW H × List MemPlace} (h : DataW.trod enc Tryz.prog w base (fun _ => true) held fuel 29 [v] = some x) :
    ∃ l : List ByteArray, SRow w v l ∧ ∀ k, k ∈ l → k.size ≤ maxLen := by
  obtain ⟨a, len, cap, hve, h1, h2, _, hnil, L, hL, hat⟩ := rows_trod (C := 1) Tryz.underlying29 (by kernel_rfl) (by omega) h
  have hk : ∀ i, ∃ s : ByteArray, i < len → L i = [.string s] ∧ s.size ≤ maxLen := by
    intro i
    by_cases hi : i < len
    · obtain ⟨hlen, n, y, ht⟩ := hL i hi
      match hq : L i, hlen with
      | [u], _ =>
        rw [hq] at ht
        obtain ⟨s, hs, _, hz⟩ := DataW.trod_string Tryz.underlying9 ht
        exact ⟨s, fun _ => ⟨by simpa using hs, hz⟩⟩
    · exact ⟨⟨#[]⟩, fun h => absurd h hi⟩
  have hll : ((List.range len).map fun i => (hk i).choose).length = len := by simp
  refine ⟨(List.range len).map fun i => (hk i).choose, ⟨by rw [hll]; omega, a, cap, by rw [hll]; exact hve, ?_⟩, fun k hkm => ?_⟩
  · rcases Nat.eq_zero_or_pos len with h0 | h0
    · exact .inl (List.eq_nil_of_length_eq_zero (by rw [hll]; exact h0))
    · obtain ⟨b, off, e, hlt, hc⟩ := hat h0
      refine .inr ⟨b, off, e, hlt, fun j hj => ?_⟩
      rw [hll] at hj
      have := hc j 0 (.string (hk j).choose) hj (congrArg (fun l : List Value => l[0]?) ((hk j).choose_spec hj).1)
      rw [Nat.mul_one, Nat.add_zero] at this
      rw [this]
      simp [List.getD_eq_getElem?_getD, hj]
  · obtain ⟨i, hi, rfl⟩ := List.mem_map.1 hkm
    exact ((hk i).choose_spec (List.mem_range.1 hi)).2
set_option maxRecDepth 100000 in
theorem read_keys {r : Reach} {b0 : Nat} {d : DataW H} {p : List MemPlace} {v : Value}
    (hv : Value.okWide Tryz.prog w r b0 29 v) (h : DataW.Trod enc Tryz.prog w base (fun _ => true) held 29 v d p) : ∃ l : List ByteArray, SRow w v l ∧ ∀ k, k ∈ l → k.size ≤ maxLen := by
  obtain ⟨fuel, hf⟩ := h
  obtain ⟨a0, len0, cap0, rfl⟩ := okWide_slice Tryz.underlying29 hv
  exact keys_trod hf
end
section
variable {ops : Array Oper} {rest : List Oper} {o : Oper} {a : Act} {w : World} {Q : Exit → Act → World → Prop}
theorem slice1_tx (hg : o.guard = none) (x : Operand) (ho : o.op = .buildSlice 29 1 #[(0, x)]) (k : ByteArray)
    (hx : a.eval x = .string k) (h : wpList Tryz.prog ops Q rest (a.put o.dst (.slice (some ⟨w.heap.size, 0, none⟩) 1 1)) (w.alloc (.cells #[.string k] 9))) : wpList Tryz.prog ops Q (o :: rest) a w := by
  obtain ⟨i0, hi0, hz0, hz1⟩ : ∃ i0, Tryz.prog.info? 9 = some i0 ∧ i0.zero = some (.string ⟨#[]⟩) ∧ i0.size = 1 := by
    have h1 : (Tryz.prog.info? 9).map (·.size) = some 1 := by kernel_rfl
    have h2 : (Tryz.prog.info? 9).bind (·.zero) = some (.string ⟨#[]⟩) := by kernel_rfl
    cases e : Tryz.prog.info? 9 with
    | none => rw [e] at h1; cases h1
    | some i0 => rw [e] at h1 h2; exact ⟨i0, rfl, h2, by simpa using h1⟩
  refine wpList_buildSlice hg 29 9 1 #[(0, x)] ho #[.string k] i0 _ Tryz.underlying29 hi0 hz0 (by rw [hz1]; decide) (by rw [hz1]; decide) ?_ h
  rw [hz1]
  simp only [List.map_toArray, List.map_cons, List.map_nil, hx]
  kernel_rfl
end
theorem srow_one (w : World) (k : ByteArray) : SRow (w.alloc (.cells #[.string k] 9)) (.slice (some ⟨w.heap.size, 0, none⟩) 1 1) [k] := by
  refine ⟨by unfold maxLen; simp, _, 1, rfl, .inr ⟨w.heap.size, 0, rfl, (Bk.new w 9 #[.string k]).lt, fun j hj => ?_⟩⟩
  obtain rfl : j = 0 := by simpa using hj
  exact (Bk.new w 9 #[.string k]).cell 0
theorem Mid16.after {w w' : World} {B g b gs r N M n H : Nat} {pg : Nat → Pg} {ids : List Nat} {R : List (ByteArray × Ce)} {ff : Prop} {keep : List ByteArray} {k : ByteArray} {u : Ud} {er : Int} (hm : Mid16 w B g b gs r N M n pg R ff keep k u er w') (ht : Tl pg n H ids R ff) :
    ∃ pg', SV w' B g b gs r N (M + 40) pg pg' ∧ w.grownBy w' (some b) ∧ (er ≠ 0 → u = ud0) ∧ ∃ H2 ids2 R2, Tl (landed er pg pg') n H2 ids2 R2 (ff ∧ ∀ x, x ∈ R → x.2.st = 1) ∧ Step16 R keep k u R2 := by
  obtain ⟨hg, pg', hs, ⟨h1, h2⟩ | ⟨h1, H', ids', R', h2, h3⟩⟩ := hm
  · exact ⟨pg', hs, hg, fun _ => h2, H, ids, R, by rw [landed_ne h1]; exact ht.weak (fun h => h.1), .inl ⟨h2, rfl⟩⟩
  · subst h1
    exact ⟨pg', hs, hg, fun h => absurd rfl h, H', ids', R', by rw [landed_zero]; exact h2, h3⟩
theorem toL_ne {a b : ByteArray} (h : ¬ a = b) : (a.toList == b.toList) = false := by
  cases e : seq a b with
  | true => exact absurd ((seq_iff a b).1 e) h
  | false => exact e
end Go.Proofs.YtaiiimlmkigajaaGreat
