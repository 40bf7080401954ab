/- (*Table).All. -/
import Derived.Test.YtnpnpkaklamboaaDoorLkAllS
set_option linter.unusedVariables false
set_option linter.unusedSimpArgs false
namespace Go.Proofs.YtnpnpkaklamboaaDoor
open Go.RowKit Go.Shelf Go.Maps

/-- A line of All. -/
structure H5 where
  n : Nm
  x : Int
  m : Nat
  w : Nat
@[reducible] def aC (h : H5) : List Value := [.int .i64 h.n.s, .string h.n.t, .int .i64 h.x, .int .i64 (h.m : Int), .int .i64 (h.w : Int)]
theorem aC_len (h : H5) : (aC h).length = 5 := rfl
theorem aC_one (h : H5) : ∀ u ∈ aC h, u.oneCell' = true := by simp [aC, Value.oneCell']
@[reducible] def lnH (n : Nm) (h : Hold) : H5 := ⟨n, h.x, h.m, h.w⟩
@[reducible] def lnW (n : Nm) (p : Int × Nat) : H5 := ⟨n, p.1, 0, p.2⟩
def lines (T : Tbl) (n : Nm) : List H5 := (T.q n).hs.map (lnH n) ++ (T.q n).ws.map (lnW n)
/-- What All gives: each name once, in their order. -/
def Tbl.allOf (T : Tbl) (A : List H5) : Prop := ∃ L : List Nm, L.Nodup ∧ L.Pairwise (fun x y => ¬ nlt y x) ∧ (∀ n, n ∈ L ↔ (T.qs n).isSome = true) ∧ A = L.flatMap (lines T)
/-- The names under way. -/
structure NR (w0 : World) (t a b r C : Nat) (T : Tbl) (F : Nat → Prop) (fq : Lit → Option Value) (gq : Nm → Nat) (Fn : Nm → Nat → Prop) (w : World) (v : Value) (L : List Nm) (left : Lit → Bool) (cnt : Nat) : Prop where
  tx : Tx w F t a b C T fq gq Fn
  mr : MpR w Tryd.prog 27 a r C fq left cnt
  kp : Below w0.heap.size w0 w
  row : Rk w (fun i => r + 1 ≤ i) 27 2 nC v L
  fl : ∀ i, F i → i < w0.heap.size
  r0 : r = w0.heap.size
  rt : 0 < w0.heap.size
  mem : ∀ n, n ∈ L ↔ (T.qs n).isSome = true ∧ left (nk n) = false
  nd : L.Nodup
  len : L.length + cnt ≤ C
section
variable {w0 w w' : World} {t a b r C : Nat} {T : Tbl} {F : Nat → Prop} {fq : Lit → Option Value} {gq : Nm → Nat} {Fn : Nm → Nat → Prop} {v v' : Value} {L : List Nm} {left : Lit → Bool} {cnt : Nat}
theorem tx_below (h : Tx w F t a b C T fq gq Fn) (fl : ∀ i, F i → i < w0.heap.size) (rt : 0 < w0.heap.size) (hs : w.heap.size ≤ w'.heap.size) (hb : ∀ i, i < w0.heap.size → w'.heap[i]? = w.heap[i]?) : Tx w' F t a b C T fq gq Fn := by
  have e := hb 0 rt
  exact h.same hs (fun i hi => hb i (fl i hi)) ⟨Nat.lt_of_lt_of_le h.tab.1 hs, fun i hi => by rw [World.cell?_of_block (w := w) e]; exact h.tab.2 i hi⟩
/-- A name is laid to the rest: the iterator moved, the name's copy and the slice of one were laid, then it was appended. -/
theorem NR.more (h : NR w0 t a b r C T F fq gq Fn w v L left cnt) {n : Nm} {q : Que} (hn : n.wf) (hq : T.qs n = some q) (hl : left (nk n) = true) {cnt' : Nat} (hc : cnt' < cnt) {w1 w2 : World} (hm : MpR w1 Tryd.prog 27 a r C fq (fun z => left z && !z.sameKey (nk n)) cnt') (hg : w.grownBy w1 (some r)) (hb : Below w1.heap.size w1 w2)
    (hrow : Rk w2 (fun i => r + 1 ≤ i) 27 2 nC v L) (hg2 : w2.grownBy w' v.ownBlock) (hr : Rk w' (Ext (fun i => r + 1 ≤ i) w2 w') 27 2 nC v' (L ++ [n])) : NR w0 t a b r C T F fq gq Fn w' v' (L ++ [n]) (fun z => left z && !z.sameKey (nk n)) cnt' := by
  have r0 := h.r0
  have s1 := h.kp.size
  have un1 : ∀ i, i < w.heap.size → i ≠ r → w1.heap[i]? = w.heap[i]? := fun i hi hne => hg.block i hi fun e => hne (Option.some.inj e)
  have z1 := hg.size
  have z2 := hb.size
  have z3 := hg2.size
  have un3 : ∀ i, i < r + 1 → w'.heap[i]? = w2.heap[i]? := fun i hi => hg2.block i (by have := h.mr.lt; omega) fun e => by have := own_in hrow i e.symm; omega
  have lt := h.mr.lt
  have un : ∀ i, i < w0.heap.size → w'.heap[i]? = w.heap[i]? := fun i hi => (un3 i (by omega)).trans ((hb.block i (by omega)).trans (un1 i (by omega) (by omega)))
  have m2 : ∀ i, i < r + 1 → w'.heap[i]? = w1.heap[i]? := fun i hi => (un3 i hi).trans (hb.block i (by omega))
  refine ⟨tx_below h.tx h.fl h.rt (by omega) un, hm.of_blocks (m2 a (by have := h.fl a h.tx.fa; omega)) (m2 r (by omega)), h.kp.trans ⟨hg2.os.trans (hb.os.trans hg.os), hg2.tape.trans (hb.tape.trans hg.tape), hg2.output.trans (hb.output.trans hg.output), by omega, un⟩, hr.mono fun i hi => ?_, h.fl, h.r0, h.rt, fun k => ?_, ?_, ?_⟩
  · rcases hi with hi | hi
    · exact hi
    · have := hi.1; omega
  · rw [List.mem_append, List.mem_singleton, h.mem]
    constructor
    · rintro (⟨h1, h2⟩ | rfl)
      · exact ⟨h1, by rw [h2]; rfl⟩
      · exact ⟨by rw [hq]; rfl, by rw [nk_same hn hn]; simp⟩
    · rintro ⟨h1, h2⟩
      by_cases e : k = n
      · exact .inr e
      · obtain ⟨q2, hq2⟩ := Option.isSome_iff_exists.1 h1
        rw [nk_same (h.tx.wf k q2 hq2) hn] at h2
        exact .inl ⟨h1, by simpa [e] using h2⟩
  · rw [List.nodup_append]
    refine ⟨h.nd, by simp, fun x hx y hy e => ?_⟩
    rw [List.mem_singleton] at hy
    subst hy; subst e
    have := ((h.mem x).1 hx).2
    rw [hl] at this
    cases this
  · have := h.len
    rw [List.length_append, List.length_singleton]
    omega
end
/-- The lines under way. -/
structure LR (w0 : World) (t a b C : Nat) (T : Tbl) (F : Nat → Prop) (fq : Lit → Option Value) (gq : Nm → Nat) (Fn : Nm → Nat → Prop) (w : World) (vn : Value) (L : List Nm) (v : Value) (A : List H5) : Prop where
  tx : Tx w F t a b C T fq gq Fn
  kp : Below w0.heap.size w0 w
  nm : Rk w (fun i => w0.heap.size ≤ i) 27 2 nC vn L
  row : Rk w (fun i => w0.heap.size ≤ i) 39 5 aC v A
  fl : ∀ i, F i → i < w0.heap.size
  rt : 0 < w0.heap.size
section
variable {w0 w w' : World} {t a b C : Nat} {T : Tbl} {F : Nat → Prop} {fq : Lit → Option Value} {gq : Nm → Nat} {Fn : Nm → Nat → Prop} {vn v v' : Value} {L : List Nm} {A : List H5}
theorem LR.below (h : LR w0 t a b C T F fq gq Fn w vn L v A) (hb : Below w.heap.size w w') : LR w0 t a b C T F fq gq Fn w' vn L v A :=
  ⟨h.tx.kept hb, below_then h.kp hb h.kp.size, h.nm.kept hb, h.row.kept hb, h.fl, h.rt⟩
theorem LR.as (h : LR w0 t a b C T F fq gq Fn w vn L v A) {A' : List H5} (e : A = A') : LR w0 t a b C T F fq gq Fn w vn L v A' := e ▸ h
theorem LR.far (h : LR w0 t a b C T F fq gq Fn w vn L v A) (hg : w.grownBy w' v.ownBlock) {K : Nat} {ty : TypeId} {cs : Array Value} (hK : Bk w K ty cs) (ht : ty ≠ 39) : Bk w' K ty cs :=
  (hg.block K hK.lt fun e => by
    obtain ⟨cs', hb⟩ := own_bk h.row K e.symm
    exact Bk.ne_ hK hb ht rfl).trans hK
theorem LR.app (h : LR w0 t a b C T F fq gq Fn w vn L v A) {x : H5} (hg : w.grownBy w' v.ownBlock) (hr : Rk w' (Ext (fun i => w0.heap.size ≤ i) w w') 39 5 aC v' (A ++ [x])) : LR w0 t a b C T F fq gq Fn w' vn L v' (A ++ [x]) := by
  have s1 := h.kp.size
  have un : ∀ i, i < w0.heap.size → w'.heap[i]? = w.heap[i]? := fun i hi => hg.block i (by omega) fun e => by have := own_in h.row i e.symm; omega
  refine ⟨tx_below h.tx h.fl h.rt hg.size un, h.kp.trans ⟨hg.os, hg.tape, hg.output, hg.size, un⟩, h.nm.apart fun i ⟨cs, hb⟩ => hg.block i hb.lt fun e => ?_, hr.mono fun i hi => ?_, h.fl, h.rt⟩
  · obtain ⟨cs', hb'⟩ := own_bk h.row i e.symm
    exact Bk.ne_ hb hb' (by decide) rfl
  · rcases hi with hi | hi
    · exact hi
    · have := hi.1; omega
end
/-- The lines under way, at a queue. -/
structure LQ (w0 : World) (t a b C : Nat) (T : Tbl) (F : Nat → Prop) (fq : Lit → Option Value) (gq : Nm → Nat) (Fn : Nm → Nat → Prop) (w : World) (vn : Value) (L : List Nm) (n : Nm) (g : Nat) (vh ve vw : Value) (q : Que) (K : Nat) (v : Value) (A : List H5) : Prop where
  lr : LR w0 t a b C T F fq gq Fn w vn L v A
  qm : Qm w (Fn n) g vh ve vw q
  kn : Bk w K 27 #[.int .i64 n.s, .string n.t]
section
variable {w0 w w' : World} {t a b C : Nat} {T : Tbl} {F : Nat → Prop} {fq : Lit → Option Value} {gq : Nm → Nat} {Fn : Nm → Nat → Prop} {vn v v' : Value} {L : List Nm} {A : List H5} {n : Nm} {g K : Nat} {vh ve vw : Value} {q : Que}
theorem LQ.below (h : LQ w0 t a b C T F fq gq Fn w vn L n g vh ve vw q K v A) (hb : Below w.heap.size w w') : LQ w0 t a b C T F fq gq Fn w' vn L n g vh ve vw q K v A := ⟨h.lr.below hb, h.qm.kept hb, h.kn.kept hb⟩
theorem LQ.as (h : LQ w0 t a b C T F fq gq Fn w vn L n g vh ve vw q K v A) {A' : List H5} (e : A = A') : LQ w0 t a b C T F fq gq Fn w vn L n g vh ve vw q K v A' := e ▸ h
theorem LQ.app (h : LQ w0 t a b C T F fq gq Fn w vn L n g vh ve vw q K v A) {x : H5} (hg : w.grownBy w' v.ownBlock) (hr : Rk w' (Ext (fun i => w0.heap.size ≤ i) w w') 39 5 aC v' (A ++ [x])) : LQ w0 t a b C T F fq gq Fn w' vn L n g vh ve vw q K v' (A ++ [x]) := by
  have s1 := h.lr.kp.size
  refine ⟨h.lr.app hg hr, h.qm.same fun i hi hlt => hg.block i hlt fun e => ?_, h.lr.far hg h.kn (by decide)⟩
  have := own_in h.lr.row i e.symm
  have := h.lr.fl i (h.lr.tx.sub n i hi).1
  omega
end
theorem line_cells (w : World) (x : H5) (vb : Nat) (h : vb = w.heap.size) : ∀ j u, (aC x)[j]? = some u → (w.alloc (.cells #[.int .i64 x.n.s, .string x.n.t, .int .i64 x.x, .int .i64 (x.m : Int), .int .i64 (x.w : Int)] 39)).cell? ((⟨vb, 0, none⟩ : Addr).add j) = some u := fun j u hu => by
  rw [Addr.add_mid, Nat.zero_add, h, (Bk.new w _ _).cell]
  simpa using hu
section
variable {ops : Array Oper} {rest : List Oper} {o : Oper} {a : Act} {w : World} {Q : Exit → Act → World → Prop}
theorem load_nm (hgd : o.guard = none) (x : Operand) (ho : o.op = .load 27 x) (b off : Nat) (n : Nm) (hx : a.eval x = .pointer (some ⟨b, off, none⟩)) (hr : w.rangeAt b off (nC n))
    (hK : wpList Tryd.prog ops Q rest (a.put o.dst (nV n)) w) : wpList Tryd.prog ops Q (o :: rest) a w :=
  wpList_load_mid hgd 27 x ho b off hx (nC n) _ hr Tryd.underlying27 rfl (by rw [nC_len]; kernel_rfl) hK
end
theorem lines_len {T : Tbl} {N : Nat} (h : T.few N) (n : Nm) : (lines T n).length ≤ N := by
  have := (h.at_ n).1
  unfold lines
  rw [List.length_append, List.length_map, List.length_map]
  exact this
end Go.Proofs.YtnpnpkaklamboaaDoor
