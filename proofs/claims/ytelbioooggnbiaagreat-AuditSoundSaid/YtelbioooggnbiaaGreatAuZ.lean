/- Does everything on a volume hang together: told plainly. A look over a volume in memory. Look: a span, a page more that is reached. A page more is reached. A heap's chain looked at. An inner node looked at. A node looked at. A tree looked at. Does everything on a volume hang together: the walk. A volume as the audit's laws meet it: Check where there is no directory; what lands. A volume whose stores are as they were made. A volume whose stores are as they were made: the calls; the anchor. -/
import Derived.Test.YtelbioooggnbiaaGreatTrW2
import Derived.Test.YtelbioooggnbiaaGreatLkRow2
import Derived.Test.YtelbioooggnbiaaGreatKept
import Derived.Test.YtelbioooggnbiaaGreatMemX
import Derived.Deep.CutBlock
import Derived.Deep.DeepCutAuto
import Derived.Great.BuildSlice
set_option linter.unusedVariables false
set_option linter.unusedSimpArgs false
namespace Go.Proofs.YtelbioooggnbiaaGreat

/-- What has been reached; a tree's leaves, and which one each says comes next. -/
structure LkS where
  re : List Int
  lv : List (Int × Int)
structure Spn where
  lo : ByteArray
  hi : ByteArray
  en : Bool
def Spn.holds (s : Spn) (k : ByteArray) : Bool := !slt k s.lo && (!s.en || slt k s.hi)
def sp0 : Spn := ⟨⟨#[]⟩, ⟨#[]⟩, false⟩
def chained : List (Int × Int) → Bool
  | [] => true
  | [x] => x.2 == 0
  | x :: y :: l => x.2 == y.1 && chained (y :: l)
section
variable (pg : Nat → Pg) (N : Nat) (st : Int)
def reachF (s : LkS) (id : Int) : Option LkS :=
  if id ∈ s.re ∨ 1024 ≤ s.re.length then none
  else if (0 ≤ id ∧ id < (N : Int)) ∧ (pg id.toNat).s = st then some ⟨id :: s.re, s.lv⟩ else none
def heapPage (p : Pg) : Prop := p.k = 3 ∧ ∀ i, i < 6 → (p.c i).d.size ≤ 32
instance (p : Pg) : Decidable (heapPage p) := by unfold heapPage; infer_instance
def chainF : Nat → LkS → Int → Option LkS
  | 0, _, _ => none
  | f + 1, s, id => (reachF pg N st s id).bind fun s' => if heapPage (pg id.toNat) then (if (pg id.toNat).n = 0 then some s' else chainF f s' (pg id.toNat).n) else none
def below (p : Pg) (sp : Spn) (i : Nat) : Spn := ⟨if i = 0 then sp.lo else (p.c i).key, if i + 1 < cnt p.c then (p.c (i + 1)).key else sp.hi, decide (i + 1 < cnt p.c) || sp.en⟩
def kidF (nf : Nat → LkS → Spn → Option LkS) (p : Pg) (sp : Spn) (s : LkS) (i : Nat) : Option LkS :=
  if sp.holds (below p sp i).lo = true then (reachF pg N st s ((p.c i).child : Int)).bind fun s' => if (pg (p.c i).child).l = p.l - 1 then nf (p.c i).child s' (below p sp i) else none
  else none
def leafF (id : Nat) (s : LkS) (sp : Spn) : Option LkS :=
  if ∀ i, i < cnt (pg id).c → sp.holds ((pg id).c i).key = true then some ⟨s.re, s.lv ++ [((id : Int), (pg id).n)]⟩ else none
def nodeF : Nat → Nat → LkS → Spn → Option LkS
  | 0, id, s, sp => if nodeOk (pg id) ∧ ¬ 0 < (pg id).l then leafF pg id s sp else none
  | f + 1, id, s, sp => if nodeOk (pg id) then (if 0 < (pg id).l then (List.range (cnt (pg id).c)).foldlM (kidF pg N st (nodeF f) (pg id) sp) s else leafF pg id s sp) else none
def treeF (s : LkS) (root : Nat) : Option LkS :=
  (reachF pg N st s (root : Int)).bind fun s1 => (nodeF pg N st (pg root).l.toNat root s1 sp0).bind fun s2 => if chained s2.lv = true then some s2 else none
end
def storeF (pg : Nat → Pg) (N : Nat) (sts : Nat → Int) (kd rt : Nat → Nat) (s : LkS) (j : Nat) : Option LkS :=
  if sts j = 0 then some s else if kd j = 1 then chainF pg N ((j : Int) + 1) 1025 ⟨s.re, []⟩ (rt j : Int) else treeF pg N ((j : Int) + 1) ⟨s.re, []⟩ (rt j)
def storesF (pg : Nat → Pg) (N : Nat) (sts : Nat → Int) (kd rt : Nat → Nat) : Option LkS := (List.range 6).foldlM (storeF pg N sts kd rt) ⟨[1, 0], []⟩
/-- What Check says: all that is owned is reached, and as many. -/
def Fine (pg : Nat → Pg) (N n : Nat) (sts : Nat → Int) (kd rt : Nat → Nat) (ow : Nat → Option Int) : Prop :=
  ∃ s, storesF pg N sts kd rt = some s ∧ (owL ow n).length = s.re.length ∧ ∀ x, x ∈ owL ow n → x ∈ s.re
theorem foldlM_none {α β : Type} {f : β → α → Option β} : ∀ {l m : List α} {s : β}, l.foldlM f s = none → (l ++ m).foldlM f s = none := by
  intro l m s h
  rw [List.foldlM_append, h]
  rfl
theorem fold_step {β : Type} {f : β → Nat → Option β} {s t : β} {i : Nat} (h : (List.range i).foldlM f s = some t) : (List.range (i + 1)).foldlM f s = f t i := by
  rw [List.range_succ, List.foldlM_append, h]
  show (f t i).bind _ = _
  cases f t i <;> rfl
theorem fold_stop {β : Type} {f : β → Nat → Option β} {s t : β} {i n : Nat} (h : (List.range i).foldlM f s = some t) (hn : f t i = none) (hi : i < n) : (List.range n).foldlM f s = none := by
  have h1 := (fold_step h).trans hn
  obtain ⟨m, rfl⟩ : ∃ m, n = (i + 1) + m := ⟨n - (i + 1), by omega⟩
  rw [List.range_add, List.foldlM_append, h1]
  rfl
theorem reach_len {pg : Nat → Pg} {N : Nat} {st : Int} {s s' : LkS} {id : Int} (h : reachF pg N st s id = some s') : s' = ⟨id :: s.re, s.lv⟩ ∧ id ∉ s.re ∧ s.re.length < 1024 ∧ 0 ≤ id ∧ id < (N : Int) ∧ (pg id.toNat).s = st := by
  unfold reachF at h
  split at h
  · cases h
  · rename_i h1
    rw [not_or] at h1
    split at h
    · rename_i h2
      injection h with h
      exact ⟨h.symm, h1.1, by omega, h2.1.1, h2.1.2, h2.2⟩
    · cases h
end Go.Proofs.YtelbioooggnbiaaGreat
namespace Go.Proofs.YtelbioooggnbiaaGreat
open Go.RowKit Go.Maps Go.Shelf

@[reducible] def lC (x : Int × Int) : List Value := [.int .i64 x.1, .int .i64 x.2]
theorem lC_len (x : Int × Int) : (lC x).length = 2 := rfl
theorem lC_one (x : Int × Int) : ∀ u ∈ lC x, u.oneCell' = true := by simp [lC, Value.oneCell']
def inF (l : List Int) (x : Int) : Option Value := if x ∈ l then some (.agg #[]) else none
theorem inF_put (l : List Int) (x : Int) : (fun y => if y = x then some (Value.agg #[]) else inF l y) = inF (x :: l) := by
  funext y
  unfold inF
  by_cases e : y = x
  · rw [if_pos e, if_pos (by rw [e]; exact List.mem_cons_self)]
  · rw [if_neg e]
    by_cases h : y ∈ l
    · rw [if_pos h, if_pos (List.mem_cons_of_mem _ h)]
    · rw [if_neg h, if_neg (fun hm => by rcases List.mem_cons.1 hm with h1 | h1; exact e h1; exact h h1)]
theorem keyedA : Keyed Tryz.prog 3 := int_keyed Tryz.underlying3
def KsA (S : Nat → Prop) (w w' : World) : Prop := ∀ i, S i → w'.heap[i]? = w.heap[i]?
theorem KsA.bk {S : Nat → Prop} {w w' : World} (h : KsA S w w') {g : Nat} {t : TypeId} {cs : Array Value} (hS : S g) (hb : Bk w g t cs) : Bk w' g t cs := (h g hS).trans hb
theorem KsA.trans {S : Nat → Prop} {a b c : World} (h : KsA S a b) (k : KsA S b c) : KsA S a c := fun i hi => (k i hi).trans (h i hi)
theorem KsA.sub {S T : Nat → Prop} {a b : World} (h : KsA S a b) (hs : ∀ i, T i → S i) : KsA T a b := fun i hi => h i (hs i hi)
/-- Of a stage's volume: where the look lies, what it has reached; S: blocks that it does not touch. -/
structure LM (w0 : World) (L rb B g b gs r N M : Nat) (und pg : Nat → Pg) (st : Int) (S : Nat → Prop) (w : World) (v : Value) (s : LkS) : Prop where
  sv : SV w0 B g b gs r N M und pg
  bk : Bk w L 85 #[.pointer (some ⟨g, 0, none⟩), .map (some rb), .int .i64 st, v]
  mp : Mp w Tryz.prog 3 rb s.re.length (keyI (inF s.re))
  row : Rk w (fun i => w0.heap.size ≤ i ∧ ¬ S i) 136 2 lC v s.lv
  kp : Below w0.heap.size w0 w
  l0 : w0.heap.size ≤ L ∧ ¬ S L
  r0 : w0.heap.size ≤ rb ∧ ¬ S rb
  sl : ∀ i, S i → i < w.heap.size
  nd : s.re.Nodup
  le : s.re.length ≤ 1024
  ll : s.lv.length ≤ s.re.length
section
variable {w0 w w' : World} {L rb B g b gs r N M : Nat} {und pg : Nat → Pg} {st : Int} {S : Nat → Prop} {v v' : Value} {s s' : LkS}
theorem LM.svw (h : LM w0 L rb B g b gs r N M und pg st S w v s) : SV w B g b gs r N M und pg := h.sv.kept h.kp
theorem LM.kept (h : LM w0 L rb B g b gs r N M und pg st S w v s) (hb : Below w.heap.size w w') : LM w0 L rb B g b gs r N M und pg st S w' v s :=
  ⟨h.sv, h.bk.kept hb, h.mp.kept hb, h.row.kept hb, below_then h.kp hb h.kp.size, h.l0, h.r0, fun i hi => Nat.lt_of_lt_of_le (h.sl i hi) hb.size, h.nd, h.le, h.ll⟩
theorem LM.ks (h : LM w0 L rb B g b gs r N M und pg st S w v s) (hb : Below w.heap.size w w') : KsA S w w' := fun i hi => hb.block i (h.sl i hi)
theorem LM.drew (h : LM w0 L rb B g b gs r N M und pg st S w v s) : LM w0 L rb B g b gs r N M und pg st S w.drew v s := h.kept ((Below.refl _ w).drew)
theorem LM.sub (h : LM w0 L rb B g b gs r N M und pg st S w v s) {T : Nat → Prop} (hs : ∀ i, T i → S i) : LM w0 L rb B g b gs r N M und pg st T w v s :=
  ⟨h.sv, h.bk, h.mp, h.row.mono fun i hi => ⟨hi.1, fun ht => hi.2 (hs i ht)⟩, h.kp, ⟨h.l0.1, fun ht => h.l0.2 (hs _ ht)⟩, ⟨h.r0.1, fun ht => h.r0.2 (hs _ ht)⟩, fun i hi => h.sl i (hs i hi), h.nd, h.le, h.ll⟩
theorem LM.rowlt (h : LM w0 L rb B g b gs r N M und pg st S w v s) : Rk w (fun i => (w0.heap.size ≤ i ∧ ¬ S i) ∧ i < w.heap.size) 136 2 lC v s.lv := by
  rcases h.row with ⟨e1, e2⟩ | ⟨b', off, cap, cur, e, hF, hA⟩
  · exact .inl ⟨e1, e2⟩
  · exact .inr ⟨b', off, cap, cur, e, ⟨hF, hA.bk.lt⟩, hA⟩
theorem LM.alloc (h : LM w0 L rb B g b gs r N M und pg st S w v s) (o : Obj) : LM w0 L rb B g b gs r N M und pg st (fun i => S i ∨ i = w.heap.size) (w.alloc o) v s := by
  have hb : Below w.heap.size w (w.alloc o) := (Below.refl _ w).alloc (Nat.le_refl _) o
  have k := h.kept hb
  refine ⟨k.sv, k.bk, k.mp, (h.rowlt.kept hb).mono fun i hi => ⟨hi.1.1, ?_⟩, k.kp, ⟨h.l0.1, ?_⟩, ⟨h.r0.1, ?_⟩, fun i hi => ?_, k.nd, k.le, k.ll⟩
  · rintro (h1 | h1)
    · exact hi.1.2 h1
    · have := hi.2; omega
  · rintro (h1 | h1)
    · exact h.l0.2 h1
    · have := h.bk.lt; omega
  · rintro (h1 | h1)
    · exact h.r0.2 h1
    · have := h.mp.lt; omega
  · rcases hi with hi | rfl
    · exact k.sl i hi
    · simp
theorem LM.alloc_ (h : LM w0 L rb B g b gs r N M und pg st S w v s) (o : Obj) : LM w0 L rb B g b gs r N M und pg st S (w.alloc o) v s := (h.alloc o).sub fun i hi => .inl hi
/-- One page more is reached. -/
theorem LM.reach (h : LM w0 L rb B g b gs r N M und pg st S w v s) {id : Int} (hm : Mp w' Tryz.prog 3 rb (s.re.length + 1) (fput (keyI (inF s.re)) (.int .i64 id) (.agg #[]))) (hg : w.grownBy w' (some rb)) (hn : id ∉ s.re) (hl : s.re.length < 1024) :
    LM w0 L rb B g b gs r N M und pg st S w' v ⟨id :: s.re, s.lv⟩ ∧ KsA S w w' := by
  have un : ∀ i, i < w.heap.size → i ≠ rb → w'.heap[i]? = w.heap[i]? := fun i hi hne => hg.block i hi fun e => hne (Option.some.inj e)
  have sz := h.kp.size
  have r0 := h.r0.1
  refine ⟨⟨h.sv, h.bk.grown hg (fun e => h.mp.ne_bk h.bk (Option.some.inj e).symm), ?_, ?_, h.kp.trans ⟨hg.os, hg.tape, hg.output, hg.size, fun i hi => un i (by omega) (by omega)⟩, h.l0, h.r0, fun i hi => Nat.lt_of_lt_of_le (h.sl i hi) hg.size, List.nodup_cons.2 ⟨hn, h.nd⟩, by simp; omega, by have := h.ll; simp; omega⟩, fun i hi => un i (h.sl i hi) fun e => h.r0.2 (by rw [← e]; exact hi)⟩
  · rw [keyI_put, inF_put] at hm
    exact hm
  · refine h.row.apart fun i ⟨cs, hb⟩ => un i hb.lt fun e => ?_
    subst e
    exact h.mp.ne_bk hb rfl
/-- A leaf more. -/
theorem LM.leaves (h : LM w0 L rb B g b gs r N M und pg st S w v s) {x : Int × Int} (hg : w.grownBy w' v.ownBlock) (hr : Rk w' (Ext (fun i => w0.heap.size ≤ i ∧ ¬ S i) w w') 136 2 lC v' (s.lv ++ [x])) (hl : s.lv.length < s.re.length) :
    LM w0 L rb B g b gs r N M und pg st S (w'.setCell ⟨L, 3, none⟩ v') v' ⟨s.re, s.lv ++ [x]⟩ ∧ KsA S w (w'.setCell ⟨L, 3, none⟩ v') := by
  have own : ∀ i, v.ownBlock = some i → (w0.heap.size ≤ i ∧ ¬ S i) ∧ ∃ cs, Bk w i 136 cs := fun i hi => by
    rcases h.row with ⟨e, _⟩ | ⟨b', off, cap, cur, e, hF, hA⟩
    · rw [e] at hi; cases hi
    · rw [e] at hi
      obtain rfl : b' = i := by simpa [Value.ownBlock] using hi
      exact ⟨hF, cur, hA.bk⟩
  have sz := h.kp.size
  have l0 := h.l0
  have bk' : Bk w' L 85 #[.pointer (some ⟨g, 0, none⟩), .map (some rb), .int .i64 st, v] := h.bk.grown hg fun e => by
    obtain ⟨_, cs, hb⟩ := own L e.symm
    exact Bk.ne_ h.bk hb (by decide) rfl
  have mp' : Mp w' Tryz.prog 3 rb s.re.length (keyI (inF s.re)) := h.mp.grown hg fun e => by
    obtain ⟨_, cs, hb⟩ := own rb e.symm
    exact h.mp.ne_bk hb rfl
  refine ⟨⟨h.sv, by simpa using bk'.set 3 v', mp'.far (h.mp.ne_bk h.bk) _, ?_, ?_, h.l0, h.r0, fun i hi => ?_, h.nd, h.le, by simp; omega⟩, fun i hi => ?_⟩
  · refine (hr.mono fun i hi => ?_).apart fun i ⟨cs, hb⟩ => ?_
    · rcases hi with hi | hi
      · exact hi
      · exact ⟨by have := hi.1; omega, fun hs => by have := h.sl i hs; have := hi.1; omega⟩
    · refine Below.heap_setCell w' ⟨L, 3, none⟩ v' i fun e => ?_
      subst e
      exact Bk.ne_ hb bk' (by decide) rfl
  · have hb : Below w0.heap.size w w' := ⟨hg.os, hg.tape, hg.output, hg.size, fun i hi => hg.block i (by omega) fun e => by have := (own i e.symm).1.1; omega⟩
    exact (h.kp.trans hb).setCell (by show w0.heap.size ≤ L; exact l0.1) v'
  · have := h.sl i hi
    have := hg.size
    simp [World.setCell]
    omega
  · rw [Below.heap_setCell w' ⟨L, 3, none⟩ v' i (fun e => l0.2 (by rw [← show i = L from e]; exact hi))]
    exact hg.block i (h.sl i hi) fun e => (own i e.symm).1.2 hi
theorem LM.touch (h : LM w0 L rb B g b gs r N M und pg st S w v s) {k : Nat} (hg : w.grownBy w' (some k)) (hS : S k) (hk : w0.heap.size ≤ k) : LM w0 L rb B g b gs r N M und pg st S w' v s := by
  have un : ∀ i, i < w.heap.size → i ≠ k → w'.heap[i]? = w.heap[i]? := fun i hi hne => hg.block i hi fun e => hne (Option.some.inj e)
  have sz := h.kp.size
  refine ⟨h.sv, h.bk.grown hg (fun e => h.l0.2 (by rw [Option.some.inj e]; exact hS)), h.mp.grown hg (fun e => h.r0.2 (by rw [Option.some.inj e]; exact hS)), ?_, h.kp.trans ⟨hg.os, hg.tape, hg.output, hg.size, fun i hi => un i (by omega) (by omega)⟩, h.l0, h.r0, fun i hi => Nat.lt_of_lt_of_le (h.sl i hi) hg.size, h.nd, h.le, h.ll⟩
  exact h.row.same fun i hi hlt => un i hlt fun e => hi.2 (by rw [e]; exact hS)
theorem grown_setRowA (w : World) (k : Nat) (cs : Array Value) : w.grownBy (w.setRow k cs) (some k) :=
  ⟨rfl, rfl, rfl, by simp [World.setRow], fun i hi hne => setRow_other w k i cs (fun e => hne (by rw [e]))⟩
theorem grown_setCell (w : World) (a : Addr) (u : Value) : w.grownBy (w.setCell a u) (some a.block) :=
  ⟨rfl, rfl, rfl, by simp [World.setCell], fun i hi hne => Below.heap_setCell w a u i (fun e => hne (by rw [e]))⟩
theorem KsA.of_grown {w w' : World} {k : Nat} (S : Nat → Prop) (hg : w.grownBy w' (some k)) (hl : ∀ i, S i → i < w.heap.size) (hn : ¬ S k) : KsA S w w' := fun i hi => hg.block i (hl i hi) fun e => hn (by rw [← Option.some.inj e]; exact hi)
end
end Go.Proofs.YtelbioooggnbiaaGreat
namespace Go.Proofs.YtelbioooggnbiaaGreat
open Go.RowKit Go.Maps Go.Shelf

@[reducible] def spV (s : Spn) : Value := .agg #[.string s.lo, .string s.hi, .bool s.en]
set_option maxRecDepth 100000 in
set_option maxHeartbeats 4000000 in
theorem holds_any (s : Spn) (k : ByteArray) (w : World) : Calls Tryz.prog 97 #[spV s, .string k] w fun e w' => e = .returned (.bool (s.holds k)) ∧ Below w.heap.size w w' := by
  obtain ⟨lo, hi, en⟩ := s
  obtain ⟨a, ha⟩ : ∃ a, a = slt k lo := ⟨_, rfl⟩
  obtain ⟨b, hb⟩ : ∃ b, b = slt k hi := ⟨_, rfl⟩
  have e : (Spn.holds ⟨lo, hi, en⟩ k) = (!a && (!en || b)) := by unfold Spn.holds; rw [ha, hb]
  rw [e]
  have HA := Lib.hid ha
  have HB := Lib.hid hb
  have B0 := Lib.hid ((Below.refl w.heap.size w).alloc (Nat.le_refl _) (.cells #[.string lo, .string hi, .bool en] 134))
  have KN := Lib.hid (Bk.new w 134 #[.string lo, .string hi, .bool en])
  obtain ⟨K, hK⟩ : ∃ K, K = w.heap.size := ⟨_, rfl⟩
  have HK := Lib.hid hK
  rw [← hK] at KN
  clear ha hb e hK
  go_enter Tryz.func97, Tryz.ntmps97
  go_upto_region 1 with fail
  rw [← HK.out]
  generalize w.alloc (.cells #[.string lo, .string hi, .bool en] 134) = w1 at *
  have c0 : w1.cell? ⟨K, 0, none⟩ = some (.string lo) := KN.out.cell 0
  have c1 : w1.cell? ⟨K, 1, none⟩ = some (.string hi) := KN.out.cell 1
  have c2 : w1.cell? ⟨K, 2, none⟩ = some (.bool en) := KN.out.cell 2
  have l1 : Op.bytesLess k.toList lo.toList = a := HA.out.symm
  have l2 : Op.bytesLess k.toList hi.toList = b := HB.out.symm
  cases a with
  | true =>
    go_wp2
    go_ret
    exact ⟨rfl, B0.out⟩
  | false =>
    cases en with
    | false =>
      go_wp2
      go_ret
      exact ⟨rfl, B0.out⟩
    | true =>
      go_wp2
      go_ret
      exact ⟨rfl, B0.out⟩
end Go.Proofs.YtelbioooggnbiaaGreat
namespace Go.Proofs.YtelbioooggnbiaaGreat
open Go.RowKit Go.Maps Go.Shelf

section
variable {P : Program} {w : World} {ops : Array Oper} {rest : List Oper} {o : Oper} {a : Act} {Q : Exit → Act → World → Prop}
theorem wpList_mp_len_ifA (hw : Region.wanted o (yielded ops a.tmps) = true) (m : Operand) (t : TypeId) (hop : o.op = Op.call { callee := Callee.builtin Builtin.len, args := #[m], argTypes := #[t] }) (b : Nat) (hm : a.eval m = .map (some b)) (x : Int)
    (hr : ∀ ty, (Builtin.len_ #[t] ty #[.map (some b)]).run P w = .ok (.int .i64 x) w) (hK : wpList P ops Q rest (a.put o.dst (.int .i64 x)) w) : wpList P ops Q (o :: rest) a w := by
  refine wpList_step fun K' hK' => ?_
  rw [if_pos hw]
  unfold Oper.wp
  simp [execOp, hop, resolve, invoke, builtin, hm, hr, Result.andThen]
  exact hK' _ _ hK
end
theorem sv_get_out {w : World} {B g b gs r N M : Nat} {und pg : Nat → Pg} (h : SV w B g b gs r N M und pg) (id : Int) (h1 : -9223372036854775808 ≤ id) (h2 : id ≤ 9223372036854775807) (ho : ¬ (0 ≤ id ∧ id < (N : Int))) :
    Calls Tryz.prog 13 #[.pointer (some ⟨g, 0, none⟩), .int .i64 id] w (PgPost (Pg.zero, 1) w) := by
  obtain ⟨m, ps, l, hs, -, hl, hi, -⟩ := h.ex
  have := ss_get hs id h1 h2
  have e : ssGet ps l id = (Pg.zero, 1) := by
    unfold ssGet stGet
    have hn : look l id = none := by
      cases e : look l id with
      | none => rfl
      | some p =>
        obtain ⟨i, hm, e2⟩ := List.mem_map.1 (look_some.1 (show (look l id).isSome = true by rw [e]; rfl))
        have a := (hs.ids i hm).1.1
        have b := hi i hm
        rw [e2] at a b
        exact absurd ⟨a, b⟩ ho
    rw [hn]
    show getPg ps id = _
    unfold getPg
    rw [if_neg (show ¬ hasId ps.length id from by rw [hl]; exact ho)]
  rw [e] at this
  exact this
theorem inF_get (l : List Int) (x : Int) : (inF l x).getD (.agg #[]) = .agg #[] := by unfold inF; split <;> rfl
theorem inF_some (l : List Int) (x : Int) : (inF l x).isSome = decide (x ∈ l) := by unfold inF; split <;> simp [*]
theorem inF_mem (l : List Int) (x : Int) : x ∈ l ↔ (inF l x).isSome = true := by rw [inF_some]; simp
/-- What page answers. -/
def PagR (w0 : World) (L rb B g b gs r N M : Nat) (und pg : Nat → Pg) (st : Int) (S : Nat → Prop) (w : World) (v : Value) (s : LkS) (id : Int) (e : Ending) (w' : World) : Prop :=
  ∃ (p : Pg) (er : Int), e = .returned (.tuple #[.agg p.cs, .int .i64 er]) ∧ ((∃ s', reachF pg N st s id = some s' ∧ er = 0 ∧ p = pg id.toNat ∧ LM w0 L rb B g b gs r N M und pg st S w' v s' ∧ KsA S w w') ∨ (reachF pg N st s id = none ∧ er ≠ 0 ∧ Below w0.heap.size w0 w'))
set_option maxRecDepth 100000 in
set_option maxHeartbeats 8000000 in
theorem page_any {w0 w : World} {L rb B g b gs r N M : Nat} {und pg : Nat → Pg} {st : Int} {S : Nat → Prop} {v : Value} {s : LkS} (h : LM w0 L rb B g b gs r N M und pg st S w v s) (id : Int) (h1 : -9223372036854775808 ≤ id) (h2 : id ≤ 9223372036854775807) :
    Calls Tryz.prog 64 #[.pointer (some ⟨L, 0, none⟩), .int .i64 id] w (PagR w0 L rb B g b gs r N M und pg st S w v s id) := by
  have KY := keyOf_int_mk (P := Tryz.prog) Tryz.underlying3 (lit64 h1 h2)
  have uz : ∀ w, (zeroValue 81).run Tryz.prog w = .ok (.agg #[]) w := fun w => by kernel_rfl
  have H := Lib.hid (h.alloc (.cells Pg.zero.cs 38))
  have KS := Lib.hid (h.ks ((Below.refl w.heap.size w).alloc (Nat.le_refl _) (.cells Pg.zero.cs 38)))
  have SL := Lib.hid (show ¬ S w.heap.size from fun hs => by have := h.sl _ hs; omega)
  have GL := Lib.hid (show w0.heap.size ≤ w.heap.size from h.kp.size)
  have Z := Lib.hid (Bk.new w 38 Pg.zero.cs)
  have H1 := Lib.hid h1; have H2 := Lib.hid h2
  clear h h1 h2
  go_enter Tryz.func64, Tryz.ntmps64
  go_upto_region 1 with fail
  change Code.wp _ _ _ _ (w.alloc (.cells Pg.zero.cs 38))
  generalize w.alloc (.cells Pg.zero.cs 38) = w1 at *
  obtain ⟨G, hG⟩ : ∃ G, G = w.heap.size := ⟨_, rfl⟩
  rw [← hG] at Z H SL GL ⊢
  clear hG
  have c1 : w1.cell? ⟨L, 1, none⟩ = some (.map (some rb)) := H.out.bk.cell 1
  obtain ⟨f, hf⟩ : ∃ f, f = decide (id ∈ s.re) := ⟨_, rfl⟩
  have FF := Lib.hid hf
  have IF := Lib.hid (show (inF s.re id).isSome = f by rw [inF_some, hf])
  clear hf
  have NO := Lib.hid (fun (p : Pg) (er : Int) (w' : World) (hr : reachF pg N st s id = none) (he : er ≠ 0) (hb : Below w0.heap.size w0 w') => show PagR w0 L rb B g b gs r N M und pg st S w v s id (.returned (.tuple #[.agg p.cs, .int .i64 er])) w' from ⟨p, er, rfl, .inr ⟨hr, he, hb⟩⟩)
  have YES := Lib.hid (fun (s' : LkS) (w' : World) (hr : reachF pg N st s id = some s') (hl : LM w0 L rb B g b gs r N M und pg st S w' v s') (hk : KsA S w w') => show PagR w0 L rb B g b gs r N M und pg st S w v s id (.returned (.tuple #[.agg (pg id.toNat).cs, .int .i64 0])) w' from ⟨_, 0, rfl, .inl ⟨s', hr, rfl, rfl, hl, hk⟩⟩)
  go_upto_region 2 with (first | (at_lookup; refine wpList_mp_look _ rfl _ _ 82 rfl 3 81 keyedA Tryz.underlying82 (uz _) rb s.re.length (keyI (inF s.re)) rfl H.out.mp _ _ rfl KY ?_; rw [keyI_at, inF_get, IF.out]) | fail)
  have M2 := Lib.hid (H.out.alloc_ (.cells #[] 81))
  have KS2 := Lib.hid (KS.out.trans ((H.out.ks ((Below.refl _ w1).alloc (Nat.le_refl _) (.cells #[] 81))).sub fun i hi => .inl hi))
  have Z2 := Lib.hid (Z.out.alloc (.cells #[] 81))
  clear H Z KS c1 IF
  generalize w1.alloc (.cells #[] 81) = w2 at *
  have c1 : w2.cell? ⟨L, 1, none⟩ = some (.map (some rb)) := M2.out.bk.cell 1
  cases f with
  | true =>
    have RN := Lib.hid (show reachF pg N st s id = none from by unfold reachF; rw [if_pos (.inl (of_decide_eq_true FF.out.symm))])
    go_wp2_with (first | (refine store_page rfl _ _ rfl G Pg.zero Pg.zero rfl rfl Z2.out ?_) | fail)
    refine bodyPost_ret (page_res rfl _ _ G Pg.zero.cs (row_bk Z2.out) rfl rfl) rfl ?_
    exact NO.out _ _ _ RN.out (by decide) (below_row M2.out.kp GL.out)
  | false =>
    have NI := Lib.hid (show id ∉ s.re from of_decide_eq_false FF.out.symm)
    obtain ⟨n, hn⟩ : ∃ n, n = s.re.length := ⟨_, rfl⟩
    have NN := Lib.hid hn
    have ML := Lib.hid (fun ty => show (Builtin.len_ #[82] ty #[.map (some rb)]).run Tryz.prog w2 = .ok (.int .i64 (n : Int)) w2 from by rw [hn]; exact M2.out.mp.len keyedA Tryz.underlying82 ty s.re M2.out.nd (inF_mem s.re))
    clear hn FF
    by_cases h24 : 1024 ≤ n
    · have h24' : (1024 : Int) ≤ (n : Int) := by omega
      have RN := Lib.hid (show reachF pg N st s id = none from by unfold reachF; rw [if_pos (.inr (by rw [← NN.out]; exact h24))])
      go_wp2_with (first | (refine wpList_mp_len_ifA (by first | rfl | kernel_rfl) _ 82 rfl rb rfl (n : Int) ML.out ?_) | (refine store_page rfl _ _ rfl G Pg.zero Pg.zero rfl rfl Z2.out ?_) | fail)
      refine bodyPost_ret (page_res rfl _ _ G Pg.zero.cs (row_bk Z2.out) rfl rfl) rfl ?_
      exact NO.out _ _ _ RN.out (by decide) (below_row M2.out.kp GL.out)
    · have h24' : ¬ (1024 : Int) ≤ (n : Int) := by omega
      have L24 := Lib.hid (show s.re.length < 1024 by rw [← NN.out]; omega)
      clear h24
      go_upto_region 5 with (first | (refine wpList_mp_len_ifA (by first | rfl | kernel_rfl) _ 82 rfl rb rfl (n : Int) ML.out ?_) | (refine wpList_mp_store _ rfl _ _ _ 82 rfl 3 81 keyedA Tryz.underlying82 rb s.re.length (keyI (inF s.re)) rfl M2.out.mp (by have := L24.out; unfold maxLen; omega) _ (.agg #[]) _ rfl rfl KY ?_; intro w3 hm hg) | fail)
      obtain ⟨m3, k3⟩ := M2.out.reach hm hg NI.out L24.out
      have M3 := Lib.hid m3
      have KS3 := Lib.hid (KS2.out.trans (k3.sub fun i hi => .inl hi))
      have Z3 := Lib.hid (Z2.out.grown hg (fun e => M2.out.mp.ne_bk Z2.out (Option.some.inj e).symm))
      clear hm hg m3 k3 M2 KS2 Z2 ML c1 h24'
      have c0 : w3.cell? ⟨L, 0, none⟩ = some (.pointer (some ⟨g, 0, none⟩)) := M3.out.bk.cell 0
      by_cases hin : 0 ≤ id ∧ id < (N : Int)
      · obtain ⟨i, rfl⟩ : ∃ i : Nat, id = i := ⟨id.toNat, by omega⟩
        have CG := Lib.hid (sv_get M3.out.svw i (by omega))
        obtain ⟨p, hp⟩ : ∃ p, p = pg i := ⟨_, rfl⟩
        have HP := Lib.hid hp
        have HIN := Lib.hid hin
        rw [← hp] at CG
        clear hp hin
        go_wp2_with fail
        refine CG.out.mono ?_
        rintro e w4 ⟨rfl, hb⟩
        have M4 := Lib.hid (M3.out.kept hb)
        have KS4 := Lib.hid (KS3.out.trans ((M3.out.ks hb).sub fun i hi => .inl hi))
        have Z4 := Lib.hid (Z3.out.kept hb)
        clear CG hb M3 KS3 Z3 c0
        obtain ⟨G2, hG2⟩ : ∃ G2, G2 = w4.heap.size := ⟨_, rfl⟩
        have M5 := Lib.hid (M4.out.alloc_ (.cells p.cs 38))
        have KS5 := Lib.hid (KS4.out.trans ((M4.out.ks ((Below.refl _ w4).alloc (Nat.le_refl _) (.cells p.cs 38))).sub fun i hi => .inl hi))
        have Z5 := Lib.hid (Z4.out.alloc (.cells p.cs 38))
        have P5 := Lib.hid (show Bk (w4.alloc (.cells p.cs 38)) G2 38 p.cs from by rw [hG2]; exact Bk.new w4 _ _)
        go_upto_region 8 with (first | (refine store_page_new rfl _ _ rfl p rfl rfl ?_; rw [← hG2]; clear hG2 M4 KS4 Z4; generalize w4.alloc (.cells p.cs 38) = w5 at *) | fail)
        have RF := Lib.hid (show reachF pg N st s (i : Int) = if p.s = st then some ⟨(i : Int) :: s.re, s.lv⟩ else none from by
          unfold reachF
          rw [if_neg (by rintro (h | h); exact NI.out h; have := L24.out; omega), Int.toNat_natCast, ← HP.out]
          by_cases e : p.s = st
          · rw [if_pos ⟨HIN.out, e⟩, if_pos e]
          · rw [if_neg (fun h => e h.2), if_neg e])
        have y2 := fun x : Kp w5 => show x.1.cell? ⟨G2, 2, none⟩ = some (.int .i64 p.s) from x.cell (P5.out.cell 2)
        have l2 := fun x : Kp w5 => show x.1.cell? ⟨L, 2, none⟩ = some (.int .i64 st) from x.cell (M5.out.bk.cell 2)
        refine wp_region_kept (by kernel_rfl) (by kernel_rfl) ?_
        iterate 7 (first
          | go_big_quiet_skip
          | (go_big_quiet_want; go_big_quiet_op; first | go_big_quiet_on))
        refine wpQuiet_nil ?_
        rintro _ ⟨xw, rfl⟩
        have M6 := Lib.hid (M5.out.kept xw.2)
        have KS6 := Lib.hid (KS5.out.trans ((M5.out.ks xw.2).sub fun i hi => .inl hi))
        have Z6 := Lib.hid (Z5.out.kept xw.2)
        have P6 := Lib.hid (P5.out.kept xw.2)
        clear y2 l2 M5 KS5 Z5 P5
        generalize xw.1 = w6 at M6 KS6 Z6 P6 ⊢
        clear xw
        by_cases hs : p.s = st
        · have hs' : (p.s != st) = false := by simp [hs]
          have RY := Lib.hid (RF.out.trans (if_pos hs))
          have EP := Lib.hid (show p = pg (i : Int).toNat from by rw [Int.toNat_natCast]; exact HP.out)
          clear hs RF
          go_wp2_with (first | (refine load_page rfl _ rfl G2 p rfl P6.out ?_) | (refine store_page rfl _ _ rfl G p Pg.zero rfl rfl Z6.out ?_) | fail)
          refine bodyPost_ret (page_res rfl _ _ G p.cs (row_bk Z6.out) rfl rfl) rfl ?_
          have hg := grown_setRow w6 G p.cs
          have Y := YES.out _ _ RY.out ((M6.out.touch hg (.inr rfl) GL.out).sub fun i hi => .inl hi) (KS6.out.trans (KsA.of_grown S hg (fun i hi => M6.out.sl i (.inl hi)) SL.out))
          rw [← EP.out] at Y
          exact Y
        · have hs' : (p.s != st) = true := by simp [hs]
          have RN := Lib.hid (RF.out.trans (if_neg hs))
          clear hs RF
          go_wp2_with (first | (refine store_page rfl _ _ rfl G Pg.zero Pg.zero rfl rfl Z6.out ?_) | fail)
          refine bodyPost_ret (page_res rfl _ _ G Pg.zero.cs (row_bk Z6.out) rfl rfl) rfl ?_
          exact NO.out _ _ _ RN.out (by decide) (below_row M6.out.kp GL.out)
      · have RN := Lib.hid (show reachF pg N st s id = none from by unfold reachF; rw [if_neg (by rintro (h | h); exact NI.out h; have := L24.out; omega), if_neg (fun h => hin h.1)])
        have CG := Lib.hid (sv_get_out M3.out.svw id H1.out H2.out hin)
        clear hin
        go_wp2_with fail
        refine CG.out.mono ?_
        rintro e w4 ⟨rfl, hb⟩
        have M4 := Lib.hid (M3.out.kept hb)
        have Z4 := Lib.hid (Z3.out.kept hb)
        clear CG hb M3 KS3 Z3 c0
        go_wp2_with (first | (refine store_page_new rfl _ _ rfl Pg.zero rfl rfl ?_) | (refine store_page rfl _ _ rfl G Pg.zero Pg.zero rfl rfl (Z4.out.alloc _) ?_) | fail)
        refine bodyPost_ret (page_res rfl _ _ G Pg.zero.cs (row_bk (Z4.out.alloc _)) rfl rfl) rfl ?_
        exact NO.out _ _ _ RN.out (by decide) (below_row (M4.out.kp.alloc M4.out.kp.size _) GL.out)
end Go.Proofs.YtelbioooggnbiaaGreat
namespace Go.Proofs.YtelbioooggnbiaaGreat
open Go.RowKit Go.Maps Go.Shelf

/-- A result of a look: it went on, or not. -/
def RetP (w0 : World) (L rb B g b gs r N M : Nat) (und pg : Nat → Pg) (st : Int) (S : Nat → Prop) (w : World) (o : Option LkS) (e : Ending) (w' : World) : Prop :=
  ∃ er : Int, e = .returned (.int .i64 er) ∧ ((∃ s' v', o = some s' ∧ er = 0 ∧ LM w0 L rb B g b gs r N M und pg st S w' v' s' ∧ KsA S w w') ∨ (o = none ∧ er ≠ 0 ∧ Below w0.heap.size w0 w'))
section
variable {w0 : World} {L rb B g b gs r N M : Nat} {und pg : Nat → Pg} {st : Int} {S : Nat → Prop}
theorem RetP.no {w w' : World} {o : Option LkS} (h : o = none) {er : Int} (he : er ≠ 0) (hb : Below w0.heap.size w0 w') : RetP w0 L rb B g b gs r N M und pg st S w o (.returned (.int .i64 er)) w' := ⟨er, rfl, .inr ⟨h, he, hb⟩⟩
theorem RetP.yes {w w' : World} {o : Option LkS} {s' : LkS} {v' : Value} (h : o = some s') (hl : LM w0 L rb B g b gs r N M und pg st S w' v' s') (hk : KsA S w w') : RetP w0 L rb B g b gs r N M und pg st S w o (.returned (.int .i64 0)) w' := ⟨0, rfl, .inl ⟨s', v', h, rfl, hl, hk⟩⟩
theorem chain_step {s : LkS} {id : Int} {s' : LkS} (h : reachF pg N st s id = some s') : chainF pg N st (1025 - s.re.length) s id = if heapPage (pg id.toNat) then (if (pg id.toNat).n = 0 then some s' else chainF pg N st (1025 - s'.re.length) s' (pg id.toNat).n) else none := by
  obtain ⟨rfl, h1, h2, -⟩ := reach_len h
  rw [show 1025 - s.re.length = (1025 - (id :: s.re).length) + 1 by simp; omega, chainF, h]
  rfl
theorem chain_stop {s : LkS} {id : Int} (h : reachF pg N st s id = none) : chainF pg N st (1025 - s.re.length) s id = none := by
  cases hf : 1025 - s.re.length with
  | zero => rfl
  | succ f => rw [chainF, h]; rfl
/-- With more to go it is the same. -/
theorem chain_fuel : ∀ (f : Nat) (s : LkS) (id : Int), 1025 - s.re.length ≤ f → chainF pg N st f s id = chainF pg N st (1025 - s.re.length) s id := by
  intro f
  induction f with
  | zero => intro s id h; rw [show 1025 - s.re.length = 0 by omega]
  | succ f ih =>
    intro s id h
    cases e : reachF pg N st s id with
    | none => rw [chain_stop e, chainF, e]; rfl
    | some s' =>
      obtain ⟨rfl, h1, h2, -⟩ := reach_len e
      rw [chain_step e, chainF, e]
      show (if _ then _ else _) = _
      rw [ih ⟨id :: s.re, s.lv⟩ _ (by simp; omega)]
end
set_option maxRecDepth 100000 in
set_option maxHeartbeats 8000000 in
theorem chain_any {w0 w : World} {L rb B g b gs r N M : Nat} {und pg : Nat → Pg} {st : Int} {S : Nat → Prop} {v : Value} {s : LkS} (h : LM w0 L rb B g b gs r N M und pg st S w v s) (hpg : ∀ i, i < N → (pg i).ok) (id : Int) (h1 : -9223372036854775808 ≤ id) (h2 : id ≤ 9223372036854775807) :
    Calls Tryz.prog 32 #[.pointer (some ⟨L, 0, none⟩), .int .i64 id] w (RetP w0 L rb B g b gs r N M und pg st S w (chainF pg N st 1025 s id)) := by
  obtain ⟨o, ho⟩ : ∃ o, o = chainF pg N st 1025 s id := ⟨_, rfl⟩
  rw [← ho]
  have HO := Lib.hid (show chainF pg N st (1025 - s.re.length) s id = o by rw [ho]; exact (chain_fuel 1025 s id (by omega)).symm)
  have M0 := Lib.hid h
  have PG := Lib.hid hpg
  have I0 := Lib.hid (⟨h1, h2⟩ : -9223372036854775808 ≤ id ∧ id ≤ 9223372036854775807)
  clear h ho hpg h1 h2
  go_enter Tryz.func32, Tryz.ntmps32
  go_wp2_with fail
  go_loopg [1] (1025 - s.re.length) (fun gg s1 wr => ∃ (id : Int) (s : LkS), s1 = .int .i64 id ∧ 1025 - s.re.length ≤ gg ∧ Hid (LM w0 L rb B g b gs r N M und pg st S wr v s ∧ KsA S w wr ∧ chainF pg N st (1025 - s.re.length) s id = o ∧ -9223372036854775808 ≤ id ∧ id ≤ 9223372036854775807))
  case atStart => exact ⟨id, s, rfl, Nat.le_refl _, Lib.hid ⟨M0.out, fun _ _ => rfl, HO.out, I0.out⟩⟩
  case round =>
    clear M0 HO I0
    obtain ⟨id, s, rfl, hgg, hI⟩ := hrel
    have GG := Lib.hid hgg
    have M1 := Lib.hid hI.out.1
    have KS := Lib.hid hI.out.2.1
    have CO := Lib.hid hI.out.2.2.1
    have CP := Lib.hid (page_any M1.out id hI.out.2.2.2.1 hI.out.2.2.2.2)
    clear hgg hI
    go_wp2_with fail
    refine CP.out.mono ?_
    rintro e w1 ⟨p, er, rfl, hr⟩
    clear CP
    rcases hr with ⟨s', hs, rfl, rfl, hM, hK⟩ | ⟨hs, hne, hb⟩
    · have M2 := Lib.hid hM
      have KS2 := Lib.hid (KS.out.trans hK)
      have RE := Lib.hid (reach_len hs)
      have ST := Lib.hid (chain_step hs)
      have PO := Lib.hid (PG.out id.toNat (by have := RE.out.2.2.2; omega))
      obtain ⟨p, hp⟩ : ∃ p, p = pg id.toNat := ⟨_, rfl⟩
      rw [← hp] at ST PO ⊢
      have LT := Lib.hid (show 1025 - s'.re.length < 1025 - s.re.length by rw [RE.out.1]; have := RE.out.2.2.1; simp; omega)
      clear hM hs M1 RE hp hK KS
      obtain ⟨G, hG⟩ : ∃ G, G = w1.heap.size := ⟨_, rfl⟩
      have K := Lib.hid (show Bk (w1.alloc (.cells p.cs 38)) G 38 p.cs from by rw [hG]; exact Bk.new w1 _ _)
      have M3 := Lib.hid (M2.out.alloc_ (.cells p.cs 38))
      have KS3 := Lib.hid (KS2.out.trans (M2.out.ks ((Below.refl _ w1).alloc (Nat.le_refl _) (.cells p.cs 38))))
      go_upto_region 2 with (first | (refine store_page_new rfl _ _ rfl p rfl rfl ?_; rw [← hG]; clear hG M2 KS2; generalize w1.alloc (.cells p.cs 38) = w2 at *))
      have c0 : w2.cell? ⟨G, 0, none⟩ = some (.int .i64 p.k) := K.out.cell 0
      have c3 : w2.cell? ⟨G, 3, none⟩ = some (.int .i64 p.n) := K.out.cell 3
      by_cases hk : p.k = 3
      · have hk' : (p.k != 3) = false := by simp [hk]
        have HK := Lib.hid hk
        go_wp2_with (first | (refine load_cells rfl _ rfl G p rfl K.out ?_) | fail)
        clear hk hk' c0 c3
        go_loopw [23] (fun s23 wr => ∃ j : Nat, j ≤ 6 ∧ s23 = .int .i64 (j : Int) ∧ Hid ((∀ q, q < j → (p.c q).d.size ≤ 32) ∧ LM w0 L rb B g b gs r N M und pg st S wr v s' ∧ Bk wr G 38 p.cs ∧ KsA S w wr)) (fun s23 _ => 6 - (intOf s23).toNat)
        case atStart => exact ⟨0, Nat.zero_le _, rfl, Lib.hid ⟨fun q hq => absurd hq (Nat.not_lt_zero q), M3.out, K.out, KS3.out⟩⟩
        case round =>
          clear M3 K KS3
          obtain ⟨j, hj, rfl, hJ⟩ := hrel
          have A1 := Lib.hid hJ.out.1
          have M4 := Lib.hid hJ.out.2.1
          have K1 := Lib.hid hJ.out.2.2.1
          have KS4 := Lib.hid hJ.out.2.2.2
          clear hJ
          by_cases hlt : j < 6
          · have HLT := Lib.hid hlt
            obtain ⟨cs, cd⟩ : ∃ c, c = p.c j := ⟨_, rfl⟩
            have SZ : cs.d.size ≤ 34 := by
              rw [cd]
              rcases PO.out.2 j hlt with ⟨_, h⟩ | ⟨_, h⟩
              · rw [h]; show 0 ≤ 34; omega
              · exact h
            have CD := Lib.hid cd
            have M5 := Lib.hid (fun o => M4.out.alloc_ o)
            have KS5 := Lib.hid (fun o => KS4.out.trans (M4.out.ks ((Below.refl _ wr).alloc (Nat.le_refl _) o)))
            have K2 := Lib.hid (fun o => K1.out.alloc o)
            clear cd
            by_cases hs : cs.d.size ≤ 32
            · have hs' : ¬ (32 : Int) < (cs.d.size : Int) := by omega
              have hs'' : ¬ 32 < cs.d.size := by omega
              have S := Lib.hid (show ∀ q, q < j + 1 → (p.c q).d.size ≤ 32 from fun q hq => by
                by_cases e : q = j
                · rw [e, ← CD.out]; exact hs
                · exact A1.out q (by omega))
              go_wp2_with (first | (refine index_cells rfl _ _ rfl p.c j HLT.out rfl rfl ?_; rw [← CD.out]) | fail)
              go_roundw
              case rel => exact ⟨j + 1, by have := HLT.out; omega, by go_num, Lib.hid ⟨S.out, M5.out _, K2.out _, KS5.out _⟩⟩
              case measure => have := HLT.out; simp [intOf]; omega
            · have hs' : (32 : Int) < (cs.d.size : Int) := by omega
              have hs'' : 32 < cs.d.size := by omega
              have NO := Lib.hid (show o = none from by
                rw [← CO.out, ST.out, if_neg]
                intro hp
                have := hp.2 j HLT.out
                rw [← CD.out] at this
                omega)
              go_wp2_with (first | (refine index_cells rfl _ _ rfl p.c j HLT.out rfl rfl ?_; rw [← CD.out]) | fail)
              go_ret
              exact .no NO.out (by decide) (M5.out _).kp
          · obtain rfl : j = 6 := by omega
            rw [show ((6 : Nat) : Int) = 6 from rfl]
            have HP := Lib.hid (show heapPage p from ⟨HK.out, A1.out⟩)
            have c3 : wr.cell? ⟨G, 3, none⟩ = some (.int .i64 p.n) := K1.out.cell 3
            clear hlt hj A1
            by_cases hn : p.n = 0
            · have hn' : (p.n == 0) = true := by simp [hn]
              have YES := Lib.hid (show o = some s' from by rw [← CO.out, ST.out, if_pos HP.out, if_pos hn])
              clear hn
              go_wp2
              go_ret
              exact .yes YES.out M4.out KS4.out
            · have hn' : (p.n == 0) = false := by simp [hn]
              have ON := Lib.hid (show chainF pg N st (1025 - s'.re.length) s' p.n = o from by rw [← CO.out, ST.out, if_pos HP.out, if_neg hn])
              have NB := Lib.hid (show -9223372036854775808 ≤ p.n ∧ p.n ≤ 9223372036854775807 from by have := PO.out.1; unfold Pg.head at this; omega)
              clear hn
              go_wp2
              go_roundg (1025 - s'.re.length)
              case measure => have := GG.out; have := LT.out; omega
              case rel => exact ⟨_, _, rfl, Nat.le_refl _, Lib.hid ⟨M4.out, KS4.out, ON.out, NB.out⟩⟩
      · have hk' : (p.k != 3) = true := by simp [hk]
        have NO := Lib.hid (show o = none from by
          rw [← CO.out, ST.out, if_neg (fun hp => hk hp.1)])
        go_wp2
        go_ret
        exact .no NO.out (by decide) M3.out.kp
    · have hne' : (er != 0) = true := by simp [hne]
      have NO := Lib.hid (show o = none from by rw [← CO.out]; exact chain_stop hs)
      have HB := Lib.hid hb
      have NE := Lib.hid hne
      clear hs hb hne M1
      go_wp2_with (first | (refine store_page_new rfl _ _ rfl p rfl rfl ?_) | fail)
      go_ret
      exact .no NO.out NE.out (HB.out.alloc HB.out.size _)
end Go.Proofs.YtelbioooggnbiaaGreat
namespace Go.Proofs.YtelbioooggnbiaaGreat
open Go.RowKit Go.Maps Go.Shelf

/-- A look in the midst of a node: the page, the span, the span below. -/
structure Kb (w0 : World) (L rb B g b gs r N M : Nat) (und pg : Nat → Pg) (st : Int) (S : Nat → Prop) (ws : World) (P Q : Nat) (p : Pg) (sp : Spn) (Z : Nat) (bl : Spn) (w : World) (v : Value) (s : LkS) : Prop where
  lm : LM w0 L rb B g b gs r N M und pg st (fun i => ((S i ∨ i = P) ∨ i = Q) ∨ i = Z) w v s
  ks : KsA S ws w
  bp : Bk w P 38 p.cs
  bq : Bk w Q 134 #[.string sp.lo, .string sp.hi, .bool sp.en]
  bz : Bk w Z 134 #[.string bl.lo, .string bl.hi, .bool bl.en]
  z0 : w0.heap.size ≤ Z
  zn : ¬ S Z ∧ Z ≠ P ∧ Z ≠ Q
section
variable {w0 : World} {L rb B g b gs r N M : Nat} {und pg : Nat → Pg} {st : Int} {S : Nat → Prop} {ws w w' : World} {P Q : Nat} {p : Pg} {sp : Spn} {Z : Nat} {bl : Spn} {v v' : Value} {s s' : LkS}
theorem Kb.step (h : Kb w0 L rb B g b gs r N M und pg st S ws P Q p sp Z bl w v s) (hl : LM w0 L rb B g b gs r N M und pg st (fun i => ((S i ∨ i = P) ∨ i = Q) ∨ i = Z) w' v' s') (hk : KsA (fun i => ((S i ∨ i = P) ∨ i = Q) ∨ i = Z) w w') : Kb w0 L rb B g b gs r N M und pg st S ws P Q p sp Z bl w' v' s' :=
  ⟨hl, h.ks.trans (hk.sub fun i hi => .inl (.inl (.inl hi))), hk.bk (.inl (.inl (.inr rfl))) h.bp, hk.bk (.inl (.inr rfl)) h.bq, hk.bk (.inr rfl) h.bz, h.z0, h.zn⟩
theorem Kb.kept (h : Kb w0 L rb B g b gs r N M und pg st S ws P Q p sp Z bl w v s) (hb : Below w.heap.size w w') : Kb w0 L rb B g b gs r N M und pg st S ws P Q p sp Z bl w' v s :=
  h.step (h.lm.kept hb) (h.lm.ks hb)
theorem Kb.alloc (h : Kb w0 L rb B g b gs r N M und pg st S ws P Q p sp Z bl w v s) (o : Obj) : Kb w0 L rb B g b gs r N M und pg st S ws P Q p sp Z bl (w.alloc o) v s := h.kept ((Below.refl _ w).alloc (Nat.le_refl _) o)
theorem Kb.set (h : Kb w0 L rb B g b gs r N M und pg st S ws P Q p sp Z bl w v s) (i : Nat) (u : Value) {bl' : Spn} (e : (#[.string bl.lo, .string bl.hi, .bool bl.en] : Array Value).setIfInBounds i u = #[.string bl'.lo, .string bl'.hi, .bool bl'.en]) : Kb w0 L rb B g b gs r N M und pg st S ws P Q p sp Z bl' (w.setCell ⟨Z, i, none⟩ u) v s := by
  have hg := grown_setCell w ⟨Z, i, none⟩ u
  refine ⟨h.lm.touch hg (.inr rfl) h.z0, h.ks.trans (KsA.of_grown S hg (fun i hi => h.lm.sl i (.inl (.inl (.inl hi)))) h.zn.1), h.bp.far (Ne.symm h.zn.2.1) u, h.bq.far (Ne.symm h.zn.2.2) u, ?_, h.z0, h.zn⟩
  have := h.bz.set i u
  rw [e] at this
  exact this
end
theorem child_lt (c : Ce) : c.child < 1024 := by
  unfold Ce.child
  split
  · rename_i h; exact h.2.2.2
  · decide
set_option maxRecDepth 100000 in
set_option maxHeartbeats 16000000 in
theorem ainner_any {w0 : World} {L rb B g b gs r N M : Nat} {und pg : Nat → Pg} {st : Int} {k : Nat}
    (ih : ∀ (S : Nat → Prop) (w : World) (v : Value) (s : LkS) (sp : Spn) (id : Nat), id < N → (pg id).l = (k : Int) → s.lv.length < s.re.length → LM w0 L rb B g b gs r N M und pg st S w v s → Calls Tryz.prog 65 #[.pointer (some ⟨L, 0, none⟩), .int .i64 (id : Int), .agg (pg id).cs, spV sp] w (RetP w0 L rb B g b gs r N M und pg st S w (nodeF pg N st k id s sp)))
    (hpg : ∀ i, i < N → (pg i).ok) {p : Pg} (hp : p.ok) (hl : p.l = (k : Int) + 1) {S : Nat → Prop} {w : World} {v : Value} {s : LkS} (h : LM w0 L rb B g b gs r N M und pg st S w v s) (sp : Spn) :
    Calls Tryz.prog 96 #[.pointer (some ⟨L, 0, none⟩), .agg p.cs, spV sp] w (RetP w0 L rb B g b gs r N M und pg st S w ((List.range (cnt p.c)).foldlM (kidF pg N st (nodeF pg N st k) p sp) s)) := by
  have IH := Lib.hid ih; have PG := Lib.hid hpg; have PO := Lib.hid hp; have PL := Lib.hid hl
  obtain ⟨F, hF⟩ : ∃ F, F = kidF pg N st (nodeF pg N st k) p sp := ⟨_, rfl⟩
  rw [← hF]
  have FE := Lib.hid hF
  obtain ⟨n, hn⟩ : ∃ n, n = cnt p.c := ⟨_, rfl⟩
  rw [← hn]
  have NE := Lib.hid hn
  have n6 : n ≤ 6 := by rw [hn]; exact cnt_le p.c
  have SZ := Lib.hid (ok_sz hp)
  clear ih hpg hp hl hF hn
  obtain ⟨lo, hi, en⟩ := sp
  obtain ⟨P, hP⟩ : ∃ P, P = w.heap.size := ⟨_, rfl⟩
  have HP := Lib.hid hP
  have m1 := h.alloc (.cells p.cs 38)
  have m2 := m1.alloc (.cells #[.string lo, .string hi, .bool en] 134)
  have k2 : KsA S w ((w.alloc (.cells p.cs 38)).alloc (.cells #[.string lo, .string hi, .bool en] 134)) := (h.ks ((Below.refl _ w).alloc (Nat.le_refl _) _)).trans ((m1.ks ((Below.refl _ _).alloc (Nat.le_refl _) _)).sub fun i hi => .inl hi)
  have bp : Bk ((w.alloc (.cells p.cs 38)).alloc (.cells #[.string lo, .string hi, .bool en] 134)) P 38 p.cs := by rw [hP]; exact (Bk.new w _ _).alloc _
  have bq : Bk ((w.alloc (.cells p.cs 38)).alloc (.cells #[.string lo, .string hi, .bool en] 134)) (P + 1) 134 #[.string lo, .string hi, .bool en] := by rw [hP]; exact Bk.new2 w _ _ _
  rw [World.size_alloc, ← hP] at m2
  have M2 := Lib.hid m2; have KS2 := Lib.hid k2; have BP := Lib.hid bp; have BQ := Lib.hid bq
  have PL0 := Lib.hid (show w0.heap.size ≤ P ∧ ∀ i, S i → i < P from ⟨by rw [hP]; exact h.kp.size, fun i hi => by rw [hP]; exact h.sl i hi⟩)
  clear m1 m2 k2 bp bq h hP
  go_enter Tryz.func96, Tryz.ntmps96
  go_upto_region 1 with fail
  rw [← HP.out]
  generalize (w.alloc (.cells p.cs 38)).alloc (.cells #[.string lo, .string hi, .bool en] 134) = w1 at *
  have CN := Lib.hid (ncount_any p w1)
  unfold Pg.v at CN
  rw [← NE.out] at CN
  go_wp2_with (first | (refine load_page rfl _ rfl P p rfl BP.out ?_) | fail)
  refine CN.out.mono ?_
  rintro e w2 ⟨rfl, hb⟩
  have M3 := Lib.hid (M2.out.kept hb)
  have KS3 := Lib.hid (KS2.out.trans ((M2.out.ks hb).sub fun i hi => .inl (.inl hi)))
  have BP3 := Lib.hid (BP.out.kept hb)
  have BQ3 := Lib.hid (BQ.out.kept hb)
  clear M2 KS2 BP BQ CN hb
  as_aux_lemma =>
    go_wp2_with fail
    go_loopw [17] (fun s17 wr => ∃ (j : Nat) (v : Value) (sj : LkS), s17 = .int .i64 (j : Int) ∧ j ≤ n ∧ Hid (LM w0 L rb B g b gs r N M und pg st (fun i => (S i ∨ i = P) ∨ i = P + 1) wr v sj ∧ KsA S w wr ∧ Bk wr P 38 p.cs ∧ Bk wr (P + 1) 134 #[.string lo, .string hi, .bool en] ∧ (List.range j).foldlM F s = some sj)) (fun s17 _ => n - (intOf s17).toNat)
    case atStart => exact ⟨0, v, s, rfl, Nat.zero_le _, Lib.hid ⟨M3.out, KS3.out, BP3.out, BQ3.out, rfl⟩⟩
    case round =>
      clear M3 KS3 BP3 BQ3
      obtain ⟨j, v, sj, rfl, hjn, hI⟩ := hrel
      by_cases hlt : j < n
      · have HLT := Lib.hid hlt
        have j6 : j < 6 := by omega
        have j6i : (j : Int) < 6 := by omega
        have RF := Lib.hid hI.out.2.2.2.2
        obtain ⟨Z, hZ⟩ : ∃ Z, Z = wr.heap.size := ⟨_, rfl⟩
        have KB := Lib.hid (show Kb w0 L rb B g b gs r N M und pg st S w P (P + 1) p ⟨lo, hi, en⟩ Z ⟨lo, hi, en⟩ (wr.alloc (.cells #[.string lo, .string hi, .bool en] 134)) v sj from by
          have a := hI.out
          have hs := a.1.sl
          have hz : w0.heap.size ≤ Z := by rw [hZ]; exact a.1.kp.size
          refine ⟨by rw [hZ]; exact a.1.alloc _, a.2.1.trans ((a.1.ks ((Below.refl _ wr).alloc (Nat.le_refl _) _)).sub fun i hi => .inl (.inl hi)), a.2.2.1.alloc _, a.2.2.2.1.alloc _, by rw [hZ]; exact Bk.new wr _ _, hz, fun hx => ?_, ?_, ?_⟩
          · have := hs Z (.inl (.inl hx)); omega
          · have := a.2.2.1.lt; omega
          · have := a.2.2.2.1.lt; omega)
        have q0 : wr.cell? ⟨P + 1, 0, none⟩ = some (.string lo) := hI.out.2.2.2.1.cell 0
        have q1 : wr.cell? ⟨P + 1, 1, none⟩ = some (.string hi) := hI.out.2.2.2.1.cell 1
        have q2 : wr.cell? ⟨P + 1, 2, none⟩ = some (.bool en) := hI.out.2.2.2.1.cell 2
        clear hI hlt hjn
        go_upto_region 6 with fail
        rw [← hZ]
        clear hZ q0 q1 q2
        generalize wr.alloc (.cells #[.string lo, .string hi, .bool en] 134) = w3 at *
        have KF := Lib.hid (show F sj j = (if (Spn.mk lo hi en).holds (below p ⟨lo, hi, en⟩ j).lo = true then (reachF pg N st sj ((p.c j).child : Int)).bind fun s' => if (pg (p.c j).child).l = p.l - 1 then nodeF pg N st k (p.c j).child s' (below p ⟨lo, hi, en⟩ j) else none else none) from by rw [FE.out]; rfl)
        obtain ⟨l1, hl1⟩ : ∃ x, x = (below p ⟨lo, hi, en⟩ j).lo := ⟨_, rfl⟩
        obtain ⟨h1, hh1⟩ : ∃ x, x = (below p ⟨lo, hi, en⟩ j).hi := ⟨_, rfl⟩
        obtain ⟨e1, he1⟩ : ∃ x, x = (below p ⟨lo, hi, en⟩ j).en := ⟨_, rfl⟩
        have BE := Lib.hid (show below p ⟨lo, hi, en⟩ j = ⟨l1, h1, e1⟩ from by rw [hl1, hh1, he1])
        have L1 := Lib.hid (show l1 = if j = 0 then lo else (p.c j).key from hl1)
        have H1 := Lib.hid (show h1 = if j + 1 < n then (p.c (j + 1)).key else hi from by rw [hh1, NE.out]; rfl)
        have E1 := Lib.hid (show e1 = (decide (j + 1 < n) || en) from by rw [he1, NE.out]; rfl)
        clear hl1 hh1 he1
        have NOB := Lib.hid (fun (hx : F sj j = none) => show (List.range n).foldlM F s = none from fold_stop RF.out hx HLT.out)
        as_aux_lemma =>
          go_upto_if 22 with fail
          go_cut [23] (fun s wx => Hid (Kb w0 L rb B g b gs r N M und pg st S w P (P + 1) p ⟨lo, hi, en⟩ Z ⟨l1, hi, en⟩ wx v sj))
          case first =>
            by_cases j0 : j = 0
            · have j0i : ¬ (0 : Int) < (j : Int) := by omega
              have j0n : ¬ 0 < j := by omega
              have LE := Lib.hid (show l1 = lo by rw [L1.out, if_pos j0])
              clear j0
              go_wp2
              go_meet
              rw [LE.out]
              exact KB
            · have j0i : (0 : Int) < (j : Int) := by omega
              have j0n : 0 < j := by omega
              have LE := Lib.hid (show l1 = (p.c j).key by rw [L1.out, if_neg j0])
              have CK := Lib.hid (key_any (p.c j) w3 (SZ.out j j6))
              unfold Ce.v at CK
              rw [← LE.out] at CK
              clear j0
              go_wp2_with (first | (refine load_cell_at rfl _ rfl P p j j6 rfl KB.out.bp ?_) | fail)
              refine CK.out.mono ?_
              rintro e w4 ⟨rfl, hb⟩
              have KB4 := Lib.hid (KB.out.kept hb)
              clear CK hb KB
              have z0 : w4.cell? ⟨Z, 0, none⟩ = some (.string lo) := KB4.out.bz.cell 0
              have f0 : w4.frozen? ⟨Z, 0, none⟩ = false := KB4.out.bz.fz 0
              have FIN := Lib.hid (KB4.out.set 0 (.string l1) (bl' := ⟨l1, hi, en⟩) rfl)
              clear KB4
              go_wp2
              go_meet
              exact FIN
          case rest =>
            have KB2 := Lib.hid hcut.out
            clear hcut KB
            have q0 : wc.cell? ⟨P + 1, 0, none⟩ = some (.string lo) := KB2.out.bq.cell 0
            have q1 : wc.cell? ⟨P + 1, 1, none⟩ = some (.string hi) := KB2.out.bq.cell 1
            have q2 : wc.cell? ⟨P + 1, 2, none⟩ = some (.bool en) := KB2.out.bq.cell 2
            have z0 : wc.cell? ⟨Z, 0, none⟩ = some (.string l1) := KB2.out.bz.cell 0
            have HC := Lib.hid (holds_any ⟨lo, hi, en⟩ l1 wc)
            obtain ⟨gh, hgh⟩ : ∃ gh, gh = (Spn.mk lo hi en).holds l1 := ⟨_, rfl⟩
            have GH := Lib.hid hgh
            rw [← hgh] at HC
            clear hgh
            as_aux_lemma =>
              go_wp2_with fail
              refine HC.out.mono ?_
              rintro e w5 ⟨rfl, hb⟩
              have KB5 := Lib.hid (KB2.out.kept hb)
              clear HC KB2 hb q0 q1 q2 z0
              cases gh with
              | false =>
                have NO := Lib.hid (NOB.out (by rw [KF.out, BE.out, ← GH.out]; rfl))
                go_wp2
                go_ret
                exact .no NO.out (by decide) KB5.out.lm.kp
              | true =>
                have KF2 := Lib.hid (show F sj j = (reachF pg N st sj ((p.c j).child : Int)).bind fun s' => if (pg (p.c j).child).l = p.l - 1 then nodeF pg N st k (p.c j).child s' ⟨l1, h1, e1⟩ else none from by rw [KF.out, BE.out, ← GH.out]; rfl)
                clear KF GH BE L1
                go_upto_if 41 with fail
                go_cut [42] (fun s wx => Hid (Kb w0 L rb B g b gs r N M und pg st S w P (P + 1) p ⟨lo, hi, en⟩ Z ⟨l1, h1, e1⟩ wx v sj))
                case first =>
                  by_cases jn : j + 1 < n
                  · have jni : (j : Int) + 1 < (n : Int) := by omega
                    have j16 : j + 1 < 6 := by omega
                    have j16i : (j : Int) + 1 < 6 := by omega
                    have HE := Lib.hid (show h1 = (p.c (j + 1)).key by rw [H1.out, if_pos jn])
                    have EE := Lib.hid (show e1 = true by rw [E1.out, decide_eq_true jn]; rfl)
                    have CK := Lib.hid (key_any (p.c (j + 1)) w5 (SZ.out (j + 1) j16))
                    unfold Ce.v at CK
                    rw [← HE.out] at CK
                    go_wp2_with (first | (refine load_cell_at rfl _ rfl P p (j + 1) j16 rfl KB5.out.bp ?_) | fail)
                    refine CK.out.mono ?_
                    rintro e w6 ⟨rfl, hb⟩
                    have KB6 := Lib.hid (KB5.out.kept hb)
                    clear CK hb KB5
                    have z1 : w6.cell? ⟨Z, 1, none⟩ = some (.string hi) := KB6.out.bz.cell 1
                    have f1 : w6.frozen? ⟨Z, 1, none⟩ = false := KB6.out.bz.fz 1
                    have KB7 := Lib.hid (KB6.out.set 1 (.string h1) (bl' := ⟨l1, h1, en⟩) rfl)
                    have z2 : (w6.setCell ⟨Z, 1, none⟩ (.string h1)).cell? ⟨Z, 2, none⟩ = some (.bool en) := KB7.out.bz.cell 2
                    have f2 : (w6.setCell ⟨Z, 1, none⟩ (.string h1)).frozen? ⟨Z, 2, none⟩ = false := KB7.out.bz.fz 2
                    have FIN := Lib.hid (KB7.out.set 2 (.bool true) (bl' := ⟨l1, h1, true⟩) rfl)
                    clear KB6 KB7
                    go_wp2
                    go_meet
                    rw [EE.out]
                    exact FIN
                  · have jni : ¬ (j : Int) + 1 < (n : Int) := by omega
                    have HE := Lib.hid (show h1 = hi by rw [H1.out, if_neg jn])
                    have EE := Lib.hid (show e1 = en by rw [E1.out, decide_eq_false jn]; rfl)
                    go_wp2
                    go_meet
                    rw [HE.out, EE.out]
                    exact KB5
                case rest =>
                  have KB8 := Lib.hid hcut.out
                  clear hcut KB5
                  have CC := Lib.hid (child_any (p.c j) wc (SZ.out j j6))
                  unfold Ce.v at CC
                  have C24 := Lib.hid (child_lt (p.c j))
                  obtain ⟨c, hc⟩ : ∃ c, c = (p.c j).child := ⟨_, rfl⟩
                  rw [← hc] at CC KF2 C24
                  clear hc
                  as_aux_lemma =>
                    go_wp2_with (first | (refine load_cell_at rfl _ rfl P p j j6 rfl KB8.out.bp ?_) | fail)
                    refine CC.out.mono ?_
                    rintro e w6 ⟨rfl, hb⟩
                    have KB9 := Lib.hid (KB8.out.kept hb)
                    clear CC KB8 hb
                    have CP := Lib.hid (page_any KB9.out.lm (c : Int) (by omega) (by have := C24.out; omega))
                    as_aux_lemma =>
                      go_wp2_with fail
                      refine CP.out.mono ?_
                      rintro e w7 ⟨q, er, rfl, hr⟩
                      clear CP
                      rcases hr with ⟨s', hs, rfl, rfl, hM, hK⟩ | ⟨hs, hne, hb⟩
                      · have KB10 := Lib.hid (KB9.out.step hM hK)
                        have RE := Lib.hid (reach_len hs)
                        have LLT := Lib.hid (show s'.lv.length < s'.re.length from by rw [RE.out.1]; have := KB9.out.lm.ll; simp; omega)
                        have CN := Lib.hid (show c < N from by have := RE.out.2.2.2.2.1; omega)
                        have KF3 := Lib.hid (show F sj j = if (pg c).l = p.l - 1 then nodeF pg N st k c s' ⟨l1, h1, e1⟩ else none from by rw [KF2.out, hs]; rfl)
                        obtain ⟨q, hq⟩ : ∃ q, q = pg c := ⟨_, rfl⟩
                        have HQ := Lib.hid hq
                        rw [Int.toNat_natCast, ← hq]
                        rw [← hq] at KF3
                        clear hs hM hK KB9 KF2 RE hq
                        obtain ⟨G, hG⟩ : ∃ G, G = w7.heap.size := ⟨_, rfl⟩
                        have KB11 := Lib.hid (KB10.out.alloc (.cells q.cs 38))
                        have BG := Lib.hid (show Bk (w7.alloc (.cells q.cs 38)) G 38 q.cs from by rw [hG]; exact Bk.new w7 _ _)
                        go_upto_region 15 with (first | (refine store_page_new rfl _ _ rfl q rfl rfl ?_; rw [← hG]; clear hG KB10; generalize w7.alloc (.cells q.cs 38) = w8 at *) | fail)
                        have g1 : w8.cell? ⟨G, 1, none⟩ = some (.int .i64 q.l) := BG.out.cell 1
                        have p1 : w8.cell? ⟨P, 1, none⟩ = some (.int .i64 p.l) := KB11.out.bp.cell 1
                        have WL : wrap64 (p.l - 1) = p.l - 1 := by
                          have := PO.out.1
                          unfold Pg.head at this
                          unfold wrap64
                          omega
                        have z0 : w8.cell? ⟨Z, 0, none⟩ = some (.string l1) := KB11.out.bz.cell 0
                        have z1 : w8.cell? ⟨Z, 1, none⟩ = some (.string h1) := KB11.out.bz.cell 1
                        have z2 : w8.cell? ⟨Z, 2, none⟩ = some (.bool e1) := KB11.out.bz.cell 2
                        obtain ⟨lv, hlv⟩ : ∃ lv, lv = p.l - 1 := ⟨_, rfl⟩
                        have LV := Lib.hid (show lv = (k : Int) by rw [hlv, PL.out]; omega)
                        rw [← hlv] at KF3
                        have WL2 : wrap64 (p.l - 1) = lv := WL.trans hlv.symm
                        clear hlv WL
                        by_cases ql : q.l = lv
                        · have ql' : (q.l != lv) = false := by simp [ql]
                          have KF4 := Lib.hid (KF3.out.trans (if_pos ql))
                          have CN2 := Lib.hid (IH.out _ w8 v s' ⟨l1, h1, e1⟩ c CN.out (by rw [← HQ.out, ql]; exact LV.out) LLT.out KB11.out.lm)
                          rw [← HQ.out] at CN2
                          clear ql KF3
                          as_aux_lemma =>
                            go_wp2_with (first | (refine load_page rfl _ rfl G q rfl BG.out ?_) | fail)
                            refine CN2.out.mono ?_
                            rintro e w9 ⟨er, rfl, hr⟩
                            clear CN2 z0 z1 z2 g1 p1
                            rcases hr with ⟨s2, v2, hs, rfl, hM, hK⟩ | ⟨hs, hne, hb⟩
                            · have KB12 := Lib.hid (KB11.out.step hM hK)
                              have RF2 := Lib.hid (show (List.range (j + 1)).foldlM F s = some s2 from by rw [fold_step RF.out, KF4.out]; exact hs)
                              clear hs hM hK KB11 BG
                              go_wp2
                              go_roundw
                              case rel => exact ⟨j + 1, v2, s2, by go_num, by have := HLT.out; omega, Lib.hid ⟨KB12.out.lm.sub fun i hi => .inl hi, KB12.out.ks, KB12.out.bp, KB12.out.bq, RF2.out⟩⟩
                              case measure => have := HLT.out; simp [intOf]; omega
                            · have hne' : (er != 0) = true := by simp [hne]
                              have NO := Lib.hid (NOB.out (KF4.out.trans hs))
                              have NE2 := Lib.hid hne
                              have HB := Lib.hid hb
                              clear hs hne hb KB11 BG
                              go_wp2
                              go_ret
                              exact .no NO.out NE2.out HB.out
                        · have ql' : (q.l != lv) = true := by simp [ql]
                          have NO := Lib.hid (NOB.out (KF3.out.trans (if_neg ql)))
                          clear ql KF3
                          go_wp2
                          go_ret
                          exact .no NO.out (by decide) KB11.out.lm.kp
                      · have hne' : (er != 0) = true := by simp [hne]
                        have NO := Lib.hid (NOB.out (by rw [KF2.out, hs]; rfl))
                        have NE2 := Lib.hid hne
                        have HB := Lib.hid hb
                        clear hs hne hb KB9
                        go_wp2_with (first | (refine store_page_new rfl _ _ rfl q rfl rfl ?_) | fail)
                        go_ret
                        exact .no NO.out NE2.out (HB.out.alloc HB.out.size _)
      · obtain rfl : n = j := by omega
        have YES := Lib.hid (RetP.yes (w0 := w0) (L := L) (rb := rb) (B := B) (g := g) (b := b) (gs := gs) (r := r) (N := N) (M := M) (und := und) (pg := pg) (st := st) (S := S) (w := w) hI.out.2.2.2.2 (hI.out.1.sub fun i hi => .inl (.inl hi)) hI.out.2.1)
        clear hI hlt
        go_wp2
        go_ret
        exact YES.out
end Go.Proofs.YtelbioooggnbiaaGreat
namespace Go.Proofs.YtelbioooggnbiaaGreat
open Go.RowKit Go.Maps Go.Shelf

section
variable {ops : Array Oper} {Q : Exit → Act → World → Prop} {K : Act → World → Prop} {i : Nat} {o : Oper} {a : Act} {w : World}
theorem held_two {P : Program} {md : Region.Mode} {S : World → Prop} {fuel : Nat} {listed : Array Bool} (i j : Nat) (hr : Region.ready md ops listed = [i, j])
    (h1 : wpOp P ops Q i (fun a' w' => S w' ∧ wpAnyH P md ops Q S fuel (listed.setIfInBounds i true) a' w') a w)
    (h2 : wpOp P ops Q j (fun a' w' => S w' ∧ wpAnyH P md ops Q S fuel (listed.setIfInBounds j true) a' w') a w) : wpAnyH P md ops Q S (fuel + 1) listed a w :=
  wpAnyH_all hr (by simp) fun q hq => by
    rcases (show q = i ∨ q = j by simpa using hq) with rfl | rfl
    · exact h1
    · exact h2
theorem held_load_lv (hi : ops[i]? = some o) (hw : Region.wanted o (yielded ops a.tmps) = true) (d : Nat) (hd : o.dst = some d) (y : Operand) (ho : o.op = .load 83 y) (g k : Nat) (u : Value)
    (hx : a.eval y = .pointer (some ⟨g, k, none⟩)) (c0 : w.cell? ⟨g, k, none⟩ = some u) (h : K (a.put (some d) u) w) : wpOp Tryz.prog ops Q i K a w := by
  refine held_wp hi hw ?_
  unfold Oper.wp execOp
  simp only [ho, hx]
  go_simp
  first | exact h | (simp only [hd]; exact h)
theorem held_store_lv (hi : ops[i]? = some o) (x y : Operand) (ho : o.op = .store 83 x y) (hd : o.dst = none) (hw : Region.wanted o (yielded ops a.tmps) = true) (g k : Nat) (ad : Option Addr) (n c : Nat) (u : Value)
    (hx : a.eval x = .pointer (some ⟨g, k, none⟩)) (hy : a.eval y = .slice ad n c) (c0 : w.cell? ⟨g, k, none⟩ = some u) (hu : u.oneCell' = true) (f0 : w.frozen? ⟨g, k, none⟩ = false) (h : K a (w.setCell ⟨g, k, none⟩ (.slice ad n c))) : wpOp Tryz.prog ops Q i K a w := by
  refine held_wp hi hw ?_
  unfold Oper.wp execOp
  simp only [ho, hx, hy]
  go_simp
  exact h
set_option maxRecDepth 100000 in
theorem held_slice1lv (hi : ops[i]? = some o) (hw : Region.wanted o (yielded ops a.tmps) = true) (d : Nat) (hd : o.dst = some d) (y : Operand) (ho : o.op = .buildSlice 83 1 #[(0, y)]) (x : Int × Int) (hy : a.eval y = .agg #[.int .i64 x.1, .int .i64 x.2])
    (h : K (a.put (some d) (.slice (some ⟨w.heap.size, 0, none⟩) 1 1)) (w.alloc (.cells #[.int .i64 x.1, .int .i64 x.2] 136))) : wpOp Tryz.prog ops Q i K a w := by
  obtain ⟨I2, hI, hz, hsz⟩ : ∃ I, Tryz.prog.info? 136 = some I ∧ I.zero = some (.agg #[.int .i64 0, .int .i64 0]) ∧ I.size = 2 := ⟨_, rfl, rfl, rfl⟩
  refine held_wp hi hw (wp_buildSlice 83 136 1 #[(0, y)] ho _ I2 _ Tryz.underlying83 hI hz (by rw [hsz]; decide) (by rw [hsz]; decide) ?_ (by rw [hd]; exact h))
  rw [hsz]
  simp only [List.map_toArray, List.map_cons, List.map_nil, hy]
  kernel_rfl
theorem held_append_rkA {P : Program} {F : Nat → Prop} {e : TypeId} {k : Nat} {α : Type} {enc : α → List Value} (hi : ops[i]? = some o) (hw : Region.wanted o (yielded ops a.tmps) = true) (d : Nat) (hd : o.dst = some d) (s y : Operand) (t : TypeId)
    (ho : o.op = .call { callee := .builtin .append, args := #[s, y], argTypes := #[t, t] })
    (I : TypeInfo) (z : Value) (bytes : Nat) (ht : P.underlying t = some (.slice e)) (hI : P.info? e = some I) (hz : I.zero = some z) (hsz : I.size = k) (hby : I.bytes = bytes) (hzs : z.cells.size = k)
    (hk : ∀ x, (enc x).length = k) (hk0 : 0 < k) (h1 : ∀ x, ∀ u ∈ enc x, u.oneCell' = true) (v : Value) (l : List α) (hs : a.eval s = v) (h : Rk w F e k enc v l) (x : α) (ad : Addr) (c : Nat) (hx : a.eval y = .slice (some ad) 1 c) (hn : ∀ j u, (enc x)[j]? = some u → w.cell? (ad.add j) = some u) (hfit : (l.length + 1) * bytes ≤ 140737488355328) (h63 : l.length < 1000000000)
    (hK : ∀ v' w', Rk w' (Ext F w w') e k enc v' (l ++ [x]) → w.grownBy w' v.ownBlock → K (a.put (some d) v') w') : wpOp P ops Q i K a w := by
  obtain ⟨v', w', hr, r1, r2⟩ := run_append_rk (P := P) t o.type I z bytes ht hI hz hsz hby hzs hk hk0 h1 h x ad c hn hfit h63
  refine held_wp hi hw ?_
  unfold Oper.wp execOp
  simp only [ho, resolve, invoke, builtin, Sem.run_bind, Sem.run_pure, Result.andThen_ok, List.map_toArray, List.map_cons, List.map_nil, hs, hx, hr, Oper.upon, hd]
  exact hK v' w' r1 r2
end
theorem LM.app_bk {w0 w w' : World} {L rb B g b gs r N M : Nat} {und pg : Nat → Pg} {st : Int} {S : Nat → Prop} {v : Value} {s : LkS} (h : LM w0 L rb B g b gs r N M und pg st S w v s) (hg : w.grownBy w' v.ownBlock) {k : Nat} {t : TypeId} {cs : Array Value} (hb : Bk w k t cs) (ht : t ≠ 136) : Bk w' k t cs :=
  hb.grown hg fun e => by
    rcases h.row with ⟨e2, _⟩ | ⟨b', off, cap, cur, e2, hF, hA⟩
    · rw [e2] at e; cases e
    · rw [e2] at e
      obtain rfl : k = b' := by simpa [Value.ownBlock] using e
      exact Bk.ne_ hb hA.bk ht rfl
theorem leaf_cells (w : World) (x y : Int) : ∀ j u, (lC (x, y))[j]? = some u → (w.alloc (.cells #[.int .i64 x, .int .i64 y] 136)).cell? ((⟨w.heap.size, 0, none⟩ : Addr).add j) = some u := fun j u hu => by
  rw [Addr.add_mid, Nat.zero_add, (Bk.new w _ _).cell]
  simpa using hu
set_option maxRecDepth 100000 in
set_option maxHeartbeats 16000000 in
theorem anode_any {w0 : World} {L rb B g b gs r N M : Nat} {und pg : Nat → Pg} {st : Int} (hpg : ∀ i, i < N → (pg i).ok) : ∀ (k : Nat) (S : Nat → Prop) (w : World) (v : Value) (s : LkS) (sp : Spn) (id : Nat), id < N → (pg id).l = (k : Int) → s.lv.length < s.re.length → LM w0 L rb B g b gs r N M und pg st S w v s →
    Calls Tryz.prog 65 #[.pointer (some ⟨L, 0, none⟩), .int .i64 (id : Int), .agg (pg id).cs, spV sp] w (RetP w0 L rb B g b gs r N M und pg st S w (nodeF pg N st k id s sp)) := by
  intro k
  induction k using Nat.strongRecOn with
  | ind k ih =>
  intro S w v s sp id hid hlv hll h
  have PO := Lib.hid (hpg id hid)
  have CI := Lib.hid (fun (k' : Nat) (hk : k = k' + 1) (S : Nat → Prop) (w : World) (v : Value) (h : LM w0 L rb B g b gs r N M und pg st S w v s) => ainner_any (ih k' (by omega)) hpg (hpg id hid) (by rw [hlv, hk]; omega) h sp)
  obtain ⟨o, ho⟩ : ∃ o, o = nodeF pg N st k id s sp := ⟨_, rfl⟩
  rw [← ho]
  have OE := Lib.hid ho
  obtain ⟨p, hp⟩ : ∃ p, p = pg id := ⟨_, rfl⟩
  have PE := Lib.hid hp
  rw [← hp] at PO CI hlv ⊢
  have LV := Lib.hid hlv
  have LL := Lib.hid hll
  have SZ := Lib.hid (ok_sz PO.out)
  clear ih ho hp hlv hll hid hpg
  obtain ⟨lo, hi, en⟩ := sp
  obtain ⟨P, hP⟩ : ∃ P, P = w.heap.size := ⟨_, rfl⟩
  have HP := Lib.hid hP
  have m1 := h.alloc (.cells p.cs 38)
  have m2 := m1.alloc (.cells #[.string lo, .string hi, .bool en] 134)
  have k2 : KsA S w ((w.alloc (.cells p.cs 38)).alloc (.cells #[.string lo, .string hi, .bool en] 134)) := (h.ks ((Below.refl _ w).alloc (Nat.le_refl _) _)).trans ((m1.ks ((Below.refl _ _).alloc (Nat.le_refl _) _)).sub fun i hi => .inl hi)
  have bp : Bk ((w.alloc (.cells p.cs 38)).alloc (.cells #[.string lo, .string hi, .bool en] 134)) P 38 p.cs := by rw [hP]; exact (Bk.new w _ _).alloc _
  have bq : Bk ((w.alloc (.cells p.cs 38)).alloc (.cells #[.string lo, .string hi, .bool en] 134)) (P + 1) 134 #[.string lo, .string hi, .bool en] := by rw [hP]; exact Bk.new2 w _ _ _
  rw [World.size_alloc, ← hP] at m2
  have M2 := Lib.hid m2; have KS2 := Lib.hid k2; have BP := Lib.hid bp; have BQ := Lib.hid bq
  clear m1 m2 k2 bp bq h hP
  go_enter Tryz.func65, Tryz.ntmps65
  go_upto_region 1 with fail
  rw [← HP.out]
  generalize (w.alloc (.cells p.cs 38)).alloc (.cells #[.string lo, .string hi, .bool en] 134) = w1 at *
  have CK := Lib.hid (ncheck_any p w1 SZ.out)
  unfold Pg.v at CK
  obtain ⟨er, her⟩ : ∃ er, er = nodeE p := ⟨_, rfl⟩
  have ER := Lib.hid her
  rw [← her] at CK
  clear her
  go_wp2_with (first | (refine load_page rfl _ rfl P p rfl BP.out ?_) | fail)
  refine CK.out.mono ?_
  rintro e w2 ⟨rfl, hb⟩
  have M3 := Lib.hid (M2.out.kept hb)
  have KS3 := Lib.hid (KS2.out.trans ((M2.out.ks hb).sub fun i hi => .inl (.inl hi)))
  have BP3 := Lib.hid (BP.out.kept hb)
  have BQ3 := Lib.hid (BQ.out.kept hb)
  clear M2 KS2 BP BQ CK hb
  by_cases hok : nodeOk p
  · obtain rfl : er = 0 := by rw [ER.out]; exact if_pos hok
    have NK := Lib.hid hok
    have p1 : w2.cell? ⟨P, 1, none⟩ = some (.int .i64 p.l) := BP3.out.cell 1
    clear hok ER
    by_cases hl : 0 < p.l
    · obtain ⟨k', hk'⟩ : ∃ k', k = k' + 1 := ⟨k - 1, by have := LV.out; omega⟩
      have CN := Lib.hid (CI.out k' hk' _ w2 v M3.out)
      have OI := Lib.hid (show o = (List.range (cnt p.c)).foldlM (kidF pg N st (nodeF pg N st k') p ⟨lo, hi, en⟩) s from by
        rw [OE.out, hk', nodeF, ← PE.out, if_pos NK.out, if_pos hl])
      rw [← OI.out] at CN
      have q0 : w2.cell? ⟨P + 1, 0, none⟩ = some (.string lo) := BQ3.out.cell 0
      have q1 : w2.cell? ⟨P + 1, 1, none⟩ = some (.string hi) := BQ3.out.cell 1
      have q2 : w2.cell? ⟨P + 1, 2, none⟩ = some (.bool en) := BQ3.out.cell 2
      clear OI hk'
      go_wp2_with (first | (refine load_page rfl _ rfl P p rfl BP3.out ?_) | fail)
      refine CN.out.mono ?_
      rintro e w3 ⟨er, rfl, hr⟩
      clear CN q0 q1 q2 p1
      rcases hr with ⟨s', v', hs, rfl, hM, hK⟩ | ⟨hs, hne, hb⟩
      · have FIN := Lib.hid (RetP.yes (w := w) (S := S) hs (hM.sub fun i hi => .inl (.inl hi)) (KS3.out.trans (hK.sub fun i hi => .inl (.inl hi))))
        clear hM hK hs
        go_wp2
        go_ret
        exact FIN.out
      · have FIN := Lib.hid (RetP.no (w0 := w0) (L := L) (rb := rb) (B := B) (g := g) (b := b) (gs := gs) (r := r) (N := N) (M := M) (und := und) (pg := pg) (st := st) (S := S) (w := w) hs hne hb)
        clear hs hne hb
        go_wp2
        go_ret
        exact FIN.out
    · have OL := Lib.hid (show o = leafF pg id s ⟨lo, hi, en⟩ from by
        rw [OE.out]
        cases k with
        | zero => rw [nodeF, ← PE.out, if_pos ⟨NK.out, hl⟩]
        | succ k => rw [nodeF, ← PE.out, if_pos NK.out, if_neg hl])
      have CN := Lib.hid (ncount_any p w2)
      unfold Pg.v at CN
      obtain ⟨n, hn⟩ : ∃ n, n = cnt p.c := ⟨_, rfl⟩
      have NE := Lib.hid hn
      have n6 : n ≤ 6 := by rw [hn]; exact cnt_le p.c
      rw [← hn] at CN
      clear hn
      go_wp2_with (first | (refine load_page rfl _ rfl P p rfl BP3.out ?_) | fail)
      refine CN.out.mono ?_
      rintro e w3 ⟨rfl, hb⟩
      have M4 := Lib.hid (M3.out.kept hb)
      have KS4 := Lib.hid (KS3.out.trans ((M3.out.ks hb).sub fun i hi => .inl (.inl hi)))
      have BP4 := Lib.hid (BP3.out.kept hb)
      have BQ4 := Lib.hid (BQ3.out.kept hb)
      clear M3 KS3 BP3 BQ3 CN hb p1 CI hl
      as_aux_lemma =>
        go_wp2_with fail
        go_loopw [25] (fun s25 wr => ∃ j : Nat, s25 = .int .i64 (j : Int) ∧ j ≤ n ∧ Hid (LM w0 L rb B g b gs r N M und pg st (fun i => (S i ∨ i = P) ∨ i = P + 1) wr v s ∧ KsA S w wr ∧ Bk wr P 38 p.cs ∧ Bk wr (P + 1) 134 #[.string lo, .string hi, .bool en] ∧ ∀ q, q < j → (Spn.mk lo hi en).holds (p.c q).key = true)) (fun s25 _ => n - (intOf s25).toNat)
        case atStart => exact ⟨0, rfl, Nat.zero_le _, Lib.hid ⟨M4.out, KS4.out, BP4.out, BQ4.out, fun q hq => absurd hq (Nat.not_lt_zero q)⟩⟩
        case round =>
          clear M4 KS4 BP4 BQ4
          obtain ⟨j, rfl, hjn, hI⟩ := hrel
          have M5 := Lib.hid hI.out.1
          have KS5 := Lib.hid hI.out.2.1
          have BP5 := Lib.hid hI.out.2.2.1
          have BQ5 := Lib.hid hI.out.2.2.2.1
          have AH := Lib.hid hI.out.2.2.2.2
          clear hI
          by_cases hlt : j < n
          · have HLT := Lib.hid hlt
            have j6 : j < 6 := by omega
            have j6i : (j : Int) < 6 := by omega
            have CK := Lib.hid (key_any (p.c j) wr (SZ.out j j6))
            unfold Ce.v at CK
            obtain ⟨key, hkey⟩ : ∃ key, key = (p.c j).key := ⟨_, rfl⟩
            have KE := Lib.hid hkey
            rw [← hkey] at CK
            clear hkey hjn
            as_aux_lemma =>
              go_wp2_with (first | (refine load_cell_at rfl _ rfl P p j j6 rfl BP5.out ?_) | fail)
              refine CK.out.mono ?_
              rintro e w4 ⟨rfl, hb⟩
              have M6 := Lib.hid (M5.out.kept hb)
              have KS6 := Lib.hid (KS5.out.trans ((M5.out.ks hb).sub fun i hi => .inl (.inl hi)))
              have BP6 := Lib.hid (BP5.out.kept hb)
              have BQ6 := Lib.hid (BQ5.out.kept hb)
              clear M5 KS5 BP5 BQ5 CK hb
              have q0 : w4.cell? ⟨P + 1, 0, none⟩ = some (.string lo) := BQ6.out.cell 0
              have q1 : w4.cell? ⟨P + 1, 1, none⟩ = some (.string hi) := BQ6.out.cell 1
              have q2 : w4.cell? ⟨P + 1, 2, none⟩ = some (.bool en) := BQ6.out.cell 2
              have HC := Lib.hid (holds_any ⟨lo, hi, en⟩ key w4)
              obtain ⟨gh, hgh⟩ : ∃ gh, gh = (Spn.mk lo hi en).holds key := ⟨_, rfl⟩
              have GH := Lib.hid hgh
              rw [← hgh] at HC
              clear hgh
              as_aux_lemma =>
                go_wp2_with fail
                refine HC.out.mono ?_
                rintro e w5 ⟨rfl, hb⟩
                have M7 := Lib.hid (M6.out.kept hb)
                have KS7 := Lib.hid (KS6.out.trans ((M6.out.ks hb).sub fun i hi => .inl (.inl hi)))
                have BP7 := Lib.hid (BP6.out.kept hb)
                have BQ7 := Lib.hid (BQ6.out.kept hb)
                clear M6 KS6 BP6 BQ6 HC hb q0 q1 q2
                cases gh with
                | false =>
                  have NO := Lib.hid (show o = none from by
                    rw [OL.out]
                    unfold leafF
                    rw [if_neg]
                    intro ha
                    have := ha j (by rw [← PE.out, ← NE.out]; exact HLT.out)
                    rw [← PE.out, ← KE.out, ← GH.out] at this
                    cases this)
                  go_wp2
                  go_ret
                  exact .no NO.out (by decide) M7.out.kp
                | true =>
                  have A2 := Lib.hid (show ∀ q, q < j + 1 → (Spn.mk lo hi en).holds (p.c q).key = true from fun q hq => by
                    by_cases e : q = j
                    · rw [e, ← KE.out]; exact GH.out.symm
                    · exact AH.out q (by omega))
                  go_wp2
                  go_roundw
                  case rel => exact ⟨j + 1, by go_num, by have := HLT.out; omega, Lib.hid ⟨M7.out, KS7.out, BP7.out, BQ7.out, A2.out⟩⟩
                  case measure => have := HLT.out; simp [intOf]; omega
          · obtain rfl : n = j := by omega
            have YE := Lib.hid (show o = some ⟨s.re, s.lv ++ [((id : Int), p.n)]⟩ from by
              rw [OL.out]
              unfold leafF
              rw [if_pos (fun i hi => by rw [← PE.out] at hi ⊢; exact AH.out i (by rw [NE.out]; exact hi)), ← PE.out])
            clear hlt hjn AH OL OE
            as_aux_lemma =>
              go_upto_region 12 with fail
              obtain ⟨va, vc, hv⟩ := M5.out.row.slice
              subst hv
              refine wp_region_held (S := fun w' => Bk w' P 38 p.cs) (by kernel_rfl) ?_
              change wpAnyH _ _ _ _ _ _ _ _ wr.drew
              have M6 := Lib.hid M5.out.drew
              have KS6 := Lib.hid (show KsA S w wr.drew from KS5.out)
              have BP6 := Lib.hid (show Bk wr.drew P 38 p.cs from BP5.out)
              obtain ⟨I2, hI2, hz2, hsz2, hby2⟩ : ∃ I, Tryz.prog.info? 136 = some I ∧ I.zero = some (.agg #[.int .i64 0, .int .i64 0]) ∧ I.size = 2 ∧ I.bytes = 16 := ⟨_, rfl, rfl, rfl, rfl⟩
              have JI := Lib.hid hI2; have JZ := Lib.hid hz2; have JSZ := Lib.hid hsz2; have JBY := Lib.hid hby2
              have LB := Lib.hid (show s.lv.length ≤ 1024 by have := M5.out.ll; have := M5.out.le; omega)
              clear M5 KS5 BP5 BQ5 hI2 hz2 hsz2 hby2
              generalize wr.drew = w4 at *
              refine held_take (fuel := 13) (i := 0) 42 rfl rfl (by kernel_rfl) (by kernel_rfl) (by kernel_rfl) (fun _ _ _ h => h) (held_move _ rfl (by kernel_rfl)) BP6.out ?_
              simp only [Act.put, Act.eval, List.setIfInBounds_toArray, List.set_cons_succ, List.set_cons_zero]
              refine held_take (fuel := 12) (i := 1) 43 rfl rfl (by kernel_rfl) (by kernel_rfl) (by kernel_rfl) (fun _ _ _ h => h) (held_move _ rfl (by kernel_rfl)) BP6.out ?_
              simp only [Act.put, Act.eval, List.setIfInBounds_toArray, List.set_cons_succ, List.set_cons_zero]
              refine held_take (fuel := 11) (i := 2) (v := .pointer (some ⟨L, 0, none⟩)) 44 rfl rfl (by kernel_rfl) (by kernel_rfl) (by kernel_rfl) (fun _ _ _ h => h) (by refine .inl ⟨by kernel_rfl, fun wx hx => ?_⟩; unfold execOp; go_simp) BP6.out ?_
              simp only [Act.put, Act.eval, List.setIfInBounds_toArray, List.set_cons_succ, List.set_cons_zero]
              refine held_take (fuel := 10) (i := 3) (v := .pointer (some ⟨L, 3, none⟩)) 45 rfl rfl (by kernel_rfl) (by kernel_rfl) (by kernel_rfl) (fun _ _ _ h => h) (by refine .inl ⟨by kernel_rfl, fun wx hx => ?_⟩; unfold execOp; go_simp) BP6.out ?_
              simp only [Act.put, Act.eval, List.setIfInBounds_toArray, List.set_cons_succ, List.set_cons_zero]
              refine held_take (fuel := 9) (i := 5) 47 rfl rfl (by kernel_rfl) (by kernel_rfl) (by kernel_rfl) (fun _ _ _ h => h) (held_move _ rfl (by kernel_rfl)) BP6.out ?_
              simp only [Act.put, Act.eval, List.setIfInBounds_toArray, List.set_cons_succ, List.set_cons_zero]
              refine held_take (fuel := 8) (i := 6) (v := .pointer (some ⟨P, 3, none⟩)) 48 rfl rfl (by kernel_rfl) (by kernel_rfl) (by kernel_rfl) (fun _ _ _ h => h) (by refine .inl ⟨by kernel_rfl, fun wx hx => ?_⟩; unfold execOp; go_simp) BP6.out ?_
              simp only [Act.put, Act.eval, List.setIfInBounds_toArray, List.set_cons_succ, List.set_cons_zero]
              refine held_take (fuel := 7) (i := 7) (v := .int .i64 p.n) 49 rfl rfl (by kernel_rfl) (by kernel_rfl) (by kernel_rfl) (fun _ _ _ h => h) (by refine .inl ⟨by kernel_rfl, fun wx hx => ?_⟩; have c3 : wx.cell? ⟨P, 3, none⟩ = some (.int .i64 p.n) := hx.cell 3; unfold execOp; go_simp) BP6.out ?_
              simp only [Act.put, Act.eval, List.setIfInBounds_toArray, List.set_cons_succ, List.set_cons_zero]
              refine held_take (fuel := 6) (i := 8) (v := .agg #[.int .i64 (id : Int), .int .i64 p.n]) 50 rfl rfl (by kernel_rfl) (by kernel_rfl) (by kernel_rfl) (fun _ _ _ h => h) (by refine .inl ⟨by kernel_rfl, fun wx hx => ?_⟩; unfold execOp; go_simp; first | done | rfl | kernel_rfl) BP6.out ?_
              simp only [Act.put, Act.eval, List.setIfInBounds_toArray, List.set_cons_succ, List.set_cons_zero]
              have c3 : w4.cell? ⟨L, 3, none⟩ = some (.slice va s.lv.length vc) := M6.out.bk.cell 3
              refine held_two 4 9 (by kernel_rfl) ?_ ?_
              · refine held_load_lv rfl (by kernel_rfl) 46 rfl _ rfl L 3 (.slice va s.lv.length vc) rfl c3 ⟨BP6.out, ?_⟩
                simp only [Act.put, Act.eval, List.setIfInBounds_toArray, List.set_cons_succ, List.set_cons_zero]
                refine held_ready (fuel := 4) 9 (by kernel_rfl) ?_
                refine held_slice1lv rfl (by kernel_rfl) 51 rfl _ rfl ((id : Int), p.n) rfl ⟨BP6.out.alloc _, ?_⟩
                simp only [Act.put, Act.eval, List.setIfInBounds_toArray, List.set_cons_succ, List.set_cons_zero]
                refine held_ready (fuel := 3) 10 (by kernel_rfl) ?_
                have M7 := Lib.hid (M6.out.alloc_ (.cells #[.int .i64 (id : Int), .int .i64 p.n] 136))
                refine held_append_rkA rfl (by kernel_rfl) 52 rfl _ _ 83 rfl I2 _ 16 Tryz.underlying83 JI.out JZ.out JSZ.out JBY.out rfl lC_len (by decide) lC_one (.slice va s.lv.length vc) s.lv rfl M7.out.row ((id : Int), p.n) ⟨w4.heap.size, 0, none⟩ 1 rfl (leaf_cells w4 _ _) (by have := LB.out; omega) (by have := LB.out; omega) ?_
                intro v8 w8 hr8 hg8
                have BP8 := Lib.hid (M7.out.app_bk hg8 (BP6.out.alloc (.cells #[.int .i64 (id : Int), .int .i64 p.n] 136)) (by decide))
                have BL8 := Lib.hid (M7.out.app_bk hg8 M7.out.bk (by decide))
                obtain ⟨va8, vc8, hv8⟩ := hr8.slice
                subst hv8
                have FIN := Lib.hid (M7.out.leaves hg8 hr8 LL.out)
                have KS8 := Lib.hid (KS6.out.trans ((M6.out.ks ((Below.refl _ w4).alloc (Nat.le_refl _) (.cells #[.int .i64 (id : Int), .int .i64 p.n] 136))).sub fun i hi => .inl (.inl hi)))
                refine ⟨BP8.out, ?_⟩
                clear hr8 hg8 M6 M7 KS6
                simp only [Act.put, Act.eval, List.setIfInBounds_toArray, List.set_cons_succ, List.set_cons_zero]
                refine held_take (fuel := 2) (i := 11) (v := .pointer (some ⟨L, 0, none⟩)) 53 rfl rfl (by kernel_rfl) (by kernel_rfl) (by kernel_rfl) (fun _ _ _ h => h) (by refine .inl ⟨by kernel_rfl, fun wx hx => ?_⟩; unfold execOp; go_simp) BP8.out ?_
                simp only [Act.put, Act.eval, List.setIfInBounds_toArray, List.set_cons_succ, List.set_cons_zero]
                refine held_take (fuel := 1) (i := 12) (v := .pointer (some ⟨L, 3, none⟩)) 54 rfl rfl (by kernel_rfl) (by kernel_rfl) (by kernel_rfl) (fun _ _ _ h => h) (by refine .inl ⟨by kernel_rfl, fun wx hx => ?_⟩; unfold execOp; go_simp) BP8.out ?_
                simp only [Act.put, Act.eval, List.setIfInBounds_toArray, List.set_cons_succ, List.set_cons_zero]
                refine held_ready (fuel := 0) 13 (by kernel_rfl) ?_
                refine held_store_lv rfl _ _ rfl rfl (by kernel_rfl) L 3 va8 _ vc8 (.slice va s.lv.length vc) rfl rfl (BL8.out.cell 3) rfl (BL8.out.fz 3) ⟨BP8.out.far (Bk.ne_ BP8.out BL8.out (by decide)) _, ?_⟩
                refine wpAnyH_done (by kernel_rfl) ?_ _
                (try simp only [Act.put, Act.eval, List.setIfInBounds_toArray, List.set_cons_succ, List.set_cons_zero])
                clear BP8 BL8
                go_wp2
                go_ret
                exact .yes YE.out (FIN.out.1.sub fun i hi => .inl (.inl hi)) (KS8.out.trans (FIN.out.2.sub fun i hi => .inl (.inl hi)))
              · have c3' : (w4.alloc (.cells #[.int .i64 (id : Int), .int .i64 p.n] 136)).cell? ⟨L, 3, none⟩ = some (.slice va s.lv.length vc) := (M6.out.bk.alloc _).cell 3
                refine held_slice1lv rfl (by kernel_rfl) 51 rfl _ rfl ((id : Int), p.n) rfl ⟨BP6.out.alloc _, ?_⟩
                simp only [Act.put, Act.eval, List.setIfInBounds_toArray, List.set_cons_succ, List.set_cons_zero]
                refine held_ready (fuel := 4) 4 (by kernel_rfl) ?_
                refine held_load_lv rfl (by kernel_rfl) 46 rfl _ rfl L 3 (.slice va s.lv.length vc) rfl c3' ⟨BP6.out.alloc _, ?_⟩
                simp only [Act.put, Act.eval, List.setIfInBounds_toArray, List.set_cons_succ, List.set_cons_zero]
                refine held_ready (fuel := 3) 10 (by kernel_rfl) ?_
                have M7 := Lib.hid (M6.out.alloc_ (.cells #[.int .i64 (id : Int), .int .i64 p.n] 136))
                refine held_append_rkA rfl (by kernel_rfl) 52 rfl _ _ 83 rfl I2 _ 16 Tryz.underlying83 JI.out JZ.out JSZ.out JBY.out rfl lC_len (by decide) lC_one (.slice va s.lv.length vc) s.lv rfl M7.out.row ((id : Int), p.n) ⟨w4.heap.size, 0, none⟩ 1 rfl (leaf_cells w4 _ _) (by have := LB.out; omega) (by have := LB.out; omega) ?_
                intro v8 w8 hr8 hg8
                have BP8 := Lib.hid (M7.out.app_bk hg8 (BP6.out.alloc (.cells #[.int .i64 (id : Int), .int .i64 p.n] 136)) (by decide))
                have BL8 := Lib.hid (M7.out.app_bk hg8 M7.out.bk (by decide))
                obtain ⟨va8, vc8, hv8⟩ := hr8.slice
                subst hv8
                have FIN := Lib.hid (M7.out.leaves hg8 hr8 LL.out)
                have KS8 := Lib.hid (KS6.out.trans ((M6.out.ks ((Below.refl _ w4).alloc (Nat.le_refl _) (.cells #[.int .i64 (id : Int), .int .i64 p.n] 136))).sub fun i hi => .inl (.inl hi)))
                refine ⟨BP8.out, ?_⟩
                clear hr8 hg8 M6 M7 KS6
                simp only [Act.put, Act.eval, List.setIfInBounds_toArray, List.set_cons_succ, List.set_cons_zero]
                refine held_take (fuel := 2) (i := 11) (v := .pointer (some ⟨L, 0, none⟩)) 53 rfl rfl (by kernel_rfl) (by kernel_rfl) (by kernel_rfl) (fun _ _ _ h => h) (by refine .inl ⟨by kernel_rfl, fun wx hx => ?_⟩; unfold execOp; go_simp) BP8.out ?_
                simp only [Act.put, Act.eval, List.setIfInBounds_toArray, List.set_cons_succ, List.set_cons_zero]
                refine held_take (fuel := 1) (i := 12) (v := .pointer (some ⟨L, 3, none⟩)) 54 rfl rfl (by kernel_rfl) (by kernel_rfl) (by kernel_rfl) (fun _ _ _ h => h) (by refine .inl ⟨by kernel_rfl, fun wx hx => ?_⟩; unfold execOp; go_simp) BP8.out ?_
                simp only [Act.put, Act.eval, List.setIfInBounds_toArray, List.set_cons_succ, List.set_cons_zero]
                refine held_ready (fuel := 0) 13 (by kernel_rfl) ?_
                refine held_store_lv rfl _ _ rfl rfl (by kernel_rfl) L 3 va8 _ vc8 (.slice va s.lv.length vc) rfl rfl (BL8.out.cell 3) rfl (BL8.out.fz 3) ⟨BP8.out.far (Bk.ne_ BP8.out BL8.out (by decide)) _, ?_⟩
                refine wpAnyH_done (by kernel_rfl) ?_ _
                (try simp only [Act.put, Act.eval, List.setIfInBounds_toArray, List.set_cons_succ, List.set_cons_zero])
                clear BP8 BL8
                go_wp2
                go_ret
                exact .yes YE.out (FIN.out.1.sub fun i hi => .inl (.inl hi)) (KS8.out.trans (FIN.out.2.sub fun i hi => .inl (.inl hi)))
  · obtain rfl : er = 40 := by rw [ER.out]; exact if_neg hok
    have NO := Lib.hid (show o = none from by
      rw [OE.out]
      cases k with
      | zero => rw [nodeF, ← PE.out, if_neg (fun h => hok h.1)]
      | succ k => rw [nodeF, ← PE.out, if_neg hok])
    go_wp2
    go_ret
    exact .no NO.out (by decide) M3.out.kp
end Go.Proofs.YtelbioooggnbiaaGreat
namespace Go.Proofs.YtelbioooggnbiaaGreat
open Go.RowKit Go.Maps Go.Shelf

def nxtAt (l : List (Int × Int)) (i : Nat) : Int := ((l[i + 1]?).map (·.1)).getD 0
theorem chained_iff : ∀ (l : List (Int × Int)), chained l = true ↔ ∀ (i : Nat) (hi : i < l.length), l[i].2 = nxtAt l i
  | [] => ⟨fun _ i hi => absurd hi (Nat.not_lt_zero i), fun _ => rfl⟩
  | [x] => by
    constructor
    · intro h i hi
      obtain rfl : i = 0 := by simp at hi; exact hi
      have : (x.2 == 0) = true := h
      simpa [nxtAt] using this
    · intro h
      have := h 0 (by simp)
      show (x.2 == 0) = true
      simpa [nxtAt] using this
  | x :: y :: l => by
    have ih := chained_iff (y :: l)
    show (x.2 == y.1 && chained (y :: l)) = true ↔ _
    rw [Bool.and_eq_true, ih]
    constructor
    · rintro ⟨h1, h2⟩ i hi
      cases i with
      | zero => simpa [nxtAt] using h1
      | succ i =>
        have := h2 i (by simp at hi ⊢; omega)
        simpa [nxtAt] using this
    · intro h
      refine ⟨beq_iff_eq.2 (show x.2 = y.1 from h 0 (by simp)), fun i hi => ?_⟩
      have := h (i + 1) (by simp at hi ⊢; omega)
      simpa [nxtAt] using this
section
variable {ops : Array Oper} {rest : List Oper} {o : Oper} {a : Act} {w : World} {Q : Exit → Act → World → Prop}
theorem load_lf (hgd : o.guard = none) (x : Operand) (ho : o.op = .load 136 x) (b off : Nat) (p : Int × Int) (hx : a.eval x = .pointer (some ⟨b, off, none⟩)) (hr : w.rangeAt b off (lC p))
    (hK : wpList Tryz.prog ops Q rest (a.put o.dst (.agg #[.int .i64 p.1, .int .i64 p.2])) w) : wpList Tryz.prog ops Q (o :: rest) a w :=
  wpList_load_mid hgd 136 x ho b off hx (lC p) _ hr Tryz.underlying136 rfl (by rw [lC_len]; kernel_rfl) hK
end
theorem Rk.cells_atA {α : Type} {w : World} {F : Nat → Prop} {e : TypeId} {k : Nat} {enc : α → List Value} {v : Value} {l : List α} (h : Rk w F e k enc v l) {j : Nat} (hj : j < l.length) : ∃ b off cap, v = .slice (some ⟨b, off, none⟩) l.length cap ∧ ∀ q (hq : q < l.length), w.rangeAt b (off + q * k) (enc l[q]) := by
  rcases h with ⟨_, rfl⟩ | ⟨b, off, cap, cur, rfl, _, hA⟩
  · simp at hj
  · exact ⟨b, off, cap, rfl, fun q hq => hA.range hq⟩
set_option maxRecDepth 100000 in
set_option maxHeartbeats 16000000 in
theorem atree_any {w0 w : World} {L rb B g b gs r N M : Nat} {und pg : Nat → Pg} {st : Int} {S : Nat → Prop} {v : Value} {s : LkS} (h : LM w0 L rb B g b gs r N M und pg st S w v s) (hpg : ∀ i, i < N → (pg i).ok) (root : Nat) (h1 : root < 1024) :
    Calls Tryz.prog 33 #[.pointer (some ⟨L, 0, none⟩), .int .i64 (root : Int)] w (RetP w0 L rb B g b gs r N M und pg st S w (treeF pg N st s root)) := by
  obtain ⟨o, ho⟩ : ∃ o, o = treeF pg N st s root := ⟨_, rfl⟩
  rw [← ho]
  have OE := Lib.hid ho
  have CP := Lib.hid (page_any h (root : Int) (by omega) (by omega))
  have PG := Lib.hid hpg
  have M0 := Lib.hid h
  clear ho h hpg h1
  go_enter Tryz.func33, Tryz.ntmps33
  go_wp2_with fail
  refine CP.out.mono ?_
  rintro e w1 ⟨p, er, rfl, hr⟩
  clear CP
  rcases hr with ⟨s1, hs, rfl, rfl, hM, hK⟩ | ⟨hs, hne, hb⟩
  · have RE := Lib.hid (reach_len hs)
    have M1 := Lib.hid hM
    have KS1 := Lib.hid hK
    rw [Int.toNat_natCast]
    have RN := Lib.hid (show root < N from by have := RE.out.2.2.2.2.1; omega)
    obtain ⟨k, hk⟩ : ∃ k, k = (pg root).l.toNat := ⟨_, rfl⟩
    have CN := Lib.hid (fun (S : Nat → Prop) (w : World) (v : Value) (hl) => anode_any (w0 := w0) (L := L) (rb := rb) (B := B) (g := g) (b := b) (gs := gs) (r := r) (M := M) (und := und) (st := st) PG.out k S w v s1 sp0 root RN.out (by rw [hk]; have := (PG.out root RN.out).1; unfold Pg.head at this; omega) (by rw [RE.out.1]; have := M0.out.ll; simp; omega) hl)
    obtain ⟨o1, ho1⟩ : ∃ o1, o1 = nodeF pg N st k root s1 sp0 := ⟨_, rfl⟩
    have O1 := Lib.hid (show o = o1.bind fun s2 => if chained s2.lv = true then some s2 else none from by
      rw [OE.out, ho1, hk]; unfold treeF; rw [hs]; rfl)
    rw [← ho1] at CN
    obtain ⟨p, hp⟩ : ∃ p, p = pg root := ⟨_, rfl⟩
    rw [← hp] at CN ⊢
    clear hs hM hK RE OE M0 hk ho1 hp
    obtain ⟨G, hG⟩ : ∃ G, G = w1.heap.size := ⟨_, rfl⟩
    have M2 := Lib.hid (M1.out.alloc_ (.cells p.cs 38))
    have KS2 := Lib.hid (KS1.out.trans (M1.out.ks ((Below.refl _ w1).alloc (Nat.le_refl _) (.cells p.cs 38))))
    have BG := Lib.hid (show Bk (w1.alloc (.cells p.cs 38)) G 38 p.cs from by rw [hG]; exact Bk.new w1 _ _)
    go_upto_region 2 with (first | (refine store_page_new rfl _ _ rfl p rfl rfl ?_; rw [← hG]; clear hG M1 KS1; generalize w1.alloc (.cells p.cs 38) = w2 at *) | fail)
    have CN2 := Lib.hid (CN.out S w2 v M2.out)
    as_aux_lemma =>
      go_wp2_with (first | (refine load_page rfl _ rfl G p rfl BG.out ?_) | fail)
      refine CN2.out.mono ?_
      rintro e w3 ⟨er, rfl, hr⟩
      clear CN CN2
      rcases hr with ⟨s2, v2, hs, rfl, hM, hK⟩ | ⟨hs, hne, hb⟩
      · have O2 := Lib.hid (show o = if chained s2.lv = true then some s2 else none from by rw [O1.out, hs]; rfl)
        have M3 := Lib.hid hM
        have KS3 := Lib.hid (KS2.out.trans hK)
        have LB := Lib.hid (show s2.lv.length ≤ 1024 by have := hM.ll; have := hM.le; omega)
        obtain ⟨va, vc, hv⟩ := hM.row.slice
        subst hv
        obtain ⟨n, hn⟩ : ∃ n, n = s2.lv.length := ⟨_, rfl⟩
        have NE := Lib.hid hn
        have n24 : n ≤ 1024 := by rw [hn]; exact LB.out
        rw [← hn] at M3 hM
        have c3 : w3.cell? ⟨L, 3, none⟩ = some (.slice va n vc) := M3.out.bk.cell 3
        clear hs hM hK M2 KS2 O1 hn
        as_aux_lemma =>
          go_wp2_with fail
          go_loopw [33] (fun s33 wr => ∃ j : Nat, s33 = .int .i64 (j : Int) ∧ j ≤ n ∧ Hid (LM w0 L rb B g b gs r N M und pg st S wr (.slice va n vc) s2 ∧ KsA S w wr ∧ ∀ q (hq : q < s2.lv.length), q < j → s2.lv[q].2 = nxtAt s2.lv q)) (fun s33 _ => n - (intOf s33).toNat)
          case atStart => exact ⟨0, rfl, Nat.zero_le _, Lib.hid ⟨M3.out, KS3.out, fun q hq hlt => absurd hlt (Nat.not_lt_zero q)⟩⟩
          case round =>
            clear M3 KS3 c3
            obtain ⟨j, rfl, hjn, hI⟩ := hrel
            have M4 := Lib.hid hI.out.1
            have KS4 := Lib.hid hI.out.2.1
            have AH := Lib.hid hI.out.2.2
            clear hI
            by_cases hlt : j < n
            · have HLT := Lib.hid hlt
              have hl1 : j < s2.lv.length := by rw [← NE.out]; exact hlt
              obtain ⟨bh, fh, cc, eh, rh⟩ := (show Rk wr (fun i => w0.heap.size ≤ i ∧ ¬ S i) 136 2 lC (.slice va n vc) s2.lv from M4.out.row).cells_atA (j := j) hl1
              obtain ⟨rfl, rfl⟩ : va = some ⟨bh, fh, none⟩ ∧ cc = vc := by
                injection eh with e1 e2 e3
                exact ⟨e1, e3.symm⟩
              obtain ⟨x, hx⟩ : ∃ x, x = s2.lv[j] := ⟨_, rfl⟩
              have XE := Lib.hid hx
              have RG := Lib.hid (show wr.rangeAt bh (fh + j * 2) (lC x) from by rw [hx]; exact rh j hl1)
              have RN2 := Lib.hid (show ∀ (hq : j + 1 < s2.lv.length) (wx : World), Below wr.heap.size wr wx → wx.cell? ⟨bh, fh + (j + 1) * 2, none⟩ = some (.int .i64 (nxtAt s2.lv j)) from fun hq wx hb => by
                rcases M4.out.row with ⟨h1, -⟩ | ⟨b', off, cap, cur, h1, -, hA⟩
                · cases h1
                · injection h1 with e1 e2 e3
                  injection e1 with e1
                  injection e1 with e4 e5
                  subst e4 e5
                  have := (hA.kept hb).cell hq (i := 0) (u := .int .i64 s2.lv[j + 1].1) rfl
                  rw [Nat.add_zero] at this
                  rw [this]
                  unfold nxtAt
                  rw [List.getElem?_eq_getElem hq]
                  rfl)
              have NX0 := Lib.hid (show ¬ j + 1 < n → nxtAt s2.lv j = 0 from fun hq => by
                unfold nxtAt
                rw [List.getElem?_eq_none (by rw [← NE.out]; omega)]
                rfl)
              clear rh hx eh hjn
              go_upto_region 10 with (first | (refine load_lf rfl _ rfl bh (fh + j * 2) x rfl RG.out ?_) | fail)
              obtain ⟨Z, hZ⟩ : ∃ Z, Z = wr.heap.size := ⟨_, rfl⟩
              have BZ := Lib.hid (show Bk (wr.alloc (.cells #[.int .i64 x.1, .int .i64 x.2] 136)) Z 136 #[.int .i64 x.1, .int .i64 x.2] from by rw [hZ]; exact Bk.new wr _ _)
              have M5 := Lib.hid (M4.out.alloc_ (.cells #[.int .i64 x.1, .int .i64 x.2] 136))
              have KS5 := Lib.hid (KS4.out.trans (M4.out.ks ((Below.refl _ wr).alloc (Nat.le_refl _) (.cells #[.int .i64 x.1, .int .i64 x.2] 136))))
              have RN3 := Lib.hid (fun hq => RN2.out hq _ ((Below.refl _ wr).alloc (Nat.le_refl _) (.cells #[.int .i64 x.1, .int .i64 x.2] 136)))
              rw [← hZ]
              clear hZ M4 KS4 RG RN2
              generalize wr.alloc (.cells #[.int .i64 x.1, .int .i64 x.2] 136) = w5 at *
              have c3 : w5.cell? ⟨L, 3, none⟩ = some (.slice (some ⟨bh, fh, none⟩) n cc) := M5.out.bk.cell 3
              have z1 : w5.cell? ⟨Z, 1, none⟩ = some (.int .i64 x.2) := BZ.out.cell 1
              obtain ⟨nx, hnx⟩ : ∃ nx, nx = nxtAt s2.lv j := ⟨_, rfl⟩
              have NX := Lib.hid hnx
              rw [← hnx] at RN3 NX0
              clear hnx
              as_aux_lemma =>
                go_upto_if 45 with fail
                go_cut [10] (fun s10 wx => s10 = .int .i64 nx ∧ wx = w5)
                case first =>
                  by_cases jn : j + 1 < n
                  · have jni : (j : Int) + 1 < (n : Int) := by omega
                    have n1 : w5.cell? ⟨bh, fh + (j + 1) * 2, none⟩ = some (.int .i64 nx) := RN3.out (by rw [← NE.out]; exact jn)
                    go_wp2
                    go_meet
                    exact ⟨rfl, rfl⟩
                  · have jni : ¬ (j : Int) + 1 < (n : Int) := by omega
                    have n0 := Lib.hid (NX0.out jn)
                    go_wp2
                    go_meet
                    exact ⟨by rw [n0.out], rfl⟩
                case rest =>
                  obtain ⟨rfl, hwc⟩ := hcut
                  subst hwc
                  by_cases hx : x.2 = nx
                  · have hx' : (x.2 != nx) = false := by simp [hx]
                    have A2 := Lib.hid (show ∀ q (hq : q < s2.lv.length), q < j + 1 → s2.lv[q].2 = nxtAt s2.lv q from fun q hq hlt => by
                      by_cases e : q = j
                      · subst e; rw [← XE.out, ← NX.out]; exact hx
                      · exact AH.out q hq (by omega))
                    clear hx
                    go_wp2
                    go_roundw
                    case rel => exact ⟨j + 1, by go_num, by have := HLT.out; omega, Lib.hid ⟨M5.out, KS5.out, A2.out⟩⟩
                    case measure => have := HLT.out; simp [intOf]; omega
                  · have hx' : (x.2 != nx) = true := by simp [hx]
                    have NO := Lib.hid (show o = none from by
                      rw [O2.out, if_neg]
                      rw [chained_iff]
                      intro ha
                      have := ha j (by rw [← NE.out]; exact HLT.out)
                      rw [← XE.out, ← NX.out] at this
                      exact hx this)
                    clear hx
                    go_wp2
                    go_ret
                    exact .no NO.out (by decide) M5.out.kp
            · obtain rfl : n = j := by omega
              have YE := Lib.hid (show o = some s2 from by
                rw [O2.out, if_pos ((chained_iff _).2 fun i hi => AH.out i hi (by rw [NE.out]; exact hi))])
              clear hlt hjn AH
              go_wp2
              go_ret
              exact .yes YE.out M4.out KS4.out
      · have hne' : (er != 0) = true := by simp [hne]
        have NO := Lib.hid (show o = none from by rw [O1.out, hs]; rfl)
        have NE2 := Lib.hid hne
        have HB := Lib.hid hb
        clear hs hne hb
        go_wp2
        go_ret
        exact .no NO.out NE2.out HB.out
  · have hne' : (er != 0) = true := by simp [hne]
    have NO := Lib.hid (show o = none from by rw [OE.out]; unfold treeF; rw [hs]; rfl)
    have NE2 := Lib.hid hne
    have HB := Lib.hid hb
    clear hs hne hb
    go_wp2_with (first | (refine store_page_new rfl _ _ rfl p rfl rfl ?_) | fail)
    go_ret
    exact .no NO.out NE2.out (HB.out.alloc HB.out.size _)
end Go.Proofs.YtelbioooggnbiaaGreat
namespace Go.Proofs.YtelbioooggnbiaaGreat
open Go.RowKit Go.Maps Go.Shelf

section
variable {P : Program} (w : World) {ops : Array Oper} {rest : List Oper} {o : Oper} {a : Act} {Q : Exit → Act → World → Prop}
theorem wpList_mp_insertA (hg : o.guard = none) (m x v : Operand) (t : TypeId) (hop : o.op = Op.insert t m x v) (k e : TypeId) (K : Keyed P k) (ht : P.underlying t = some (.map k e)) (b n : Nat) (f : Lit → Option Value)
    (hm : a.eval m = .map (some b)) (hown : Mp w P k b n f) (hn : n < maxLen) (key val : Value) (kl : Lit) (hx : a.eval x = key) (hv : a.eval v = val) (hkey : keyOf P k key = some kl)
    (hK : ∀ w', Mp w' P k b (n + 1) (fput f kl val) → w.grownBy w' (some b) → wpList P ops Q rest (a.put o.dst undef) w') : wpList P ops Q (o :: rest) a w := by
  refine wpList_plain hg fun K' hK' => ?_
  obtain ⟨w', hrun, r1, r2⟩ := hown.store K ht hn val hkey
  unfold Oper.wp
  simp [execOp, hop, hm, hx, hv, hrun, Result.andThen]
  exact hK' _ _ (hK w' r1 r2)
end
theorem row_cellA {w : World} {base n : Nat} {t : TypeId} {v : Value} {xs : List Value} (h : w.ownsRow base t 1 v n xs) {i : Nat} {u : Value} (hi : xs[i]? = some u) (hn : i < n) : ∃ g c, v = .slice (some ⟨g, 0, none⟩) n c ∧ w.cell? ⟨g, i, none⟩ = some u := by
  obtain ⟨g, cap, hv, h1, h2⟩ := World.ownsRow.form h (by omega)
  subst hv
  have := World.ownsRow.cells h (g := g) rfl i u hi
  rw [Addr.add_lit, Nat.zero_add] at this
  exact ⟨g, cap, rfl, this⟩
set_option maxRecDepth 100000 in
set_option maxHeartbeats 8000000 in
theorem owners_any {w0 w : World} {L rb B g b gs r N M : Nat} {und pg : Nat → Pg} {st : Int} {S : Nat → Prop} {v : Value} {s : LkS} (h : LM w0 L rb B g b gs r N M und pg st S w v s) {n : Nat} {sts : Nat → Int} {kd rt : Nat → Nat} {ow : Nat → Option Int} (hv : Vol pg n sts kd rt ow) (hn : n ≤ N) :
    Calls Tryz.prog 34 #[.pointer (some ⟨L, 0, none⟩)] w fun e w' => ∃ er : Int, e = .returned (.int .i64 er) ∧ (er = 0 ↔ ((owL ow n).length = s.re.length ∧ ∀ x, x ∈ owL ow n → x ∈ s.re)) ∧ (er = 0 ∨ er = 40) ∧ Below w0.heap.size w0 w' := by
  have uz : ∀ w, (zeroValue 81).run Tryz.prog w = .ok (.agg #[]) w := fun w => by kernel_rfl
  have CU := Lib.hid (used_vol h.svw hn hv)
  have M0 := Lib.hid h
  have OB := Lib.hid (show ∀ x, x ∈ owL ow n → 0 ≤ x ∧ x < 1024 from fun x hx => by
    unfold owL at hx
    obtain ⟨i, hi, rfl⟩ := List.mem_map.1 hx
    have := List.mem_range.1 (List.mem_filter.1 hi).1
    have := hv.lo
    omega)
  have LU := Lib.hid (show (owL ow n).length ≤ 1024 from by
    unfold owL
    rw [List.length_map]
    have a := List.length_filter_le (fun i => (ow i).isSome) (List.range n)
    rw [List.length_range] at a
    have := hv.lo
    omega)
  have c0 : w.cell? ⟨L, 0, none⟩ = some (.pointer (some ⟨g, 0, none⟩)) := h.bk.cell 0
  obtain ⟨U, hU⟩ : ∃ U, U = owL ow n := ⟨_, rfl⟩
  rw [← hU] at CU OB LU ⊢
  obtain ⟨k, hk⟩ : ∃ k, k = s.re.length := ⟨_, rfl⟩
  have KE := Lib.hid hk
  have k24 : k ≤ 1024 := by rw [hk]; exact h.le
  rw [← hk]
  clear h hv hn hU hk
  go_enter Tryz.func34, Tryz.ntmps34
  go_wp2_with fail
  refine CU.out.mono ?_
  rintro e w1 ⟨u, rfl, hu, hb⟩
  have M1 := Lib.hid (M0.out.kept hb)
  have UU := Lib.hid (show w1.ownsRow w.heap.size 3 1 u U.length (U.map (Value.int .i64)) from hu)
  clear CU hu hb M0 c0
  obtain ⟨ua, uc, hus⟩ := ow_slice UU.out
  subst hus
  obtain ⟨m, hm⟩ : ∃ m, m = U.length := ⟨_, rfl⟩
  have ME := Lib.hid hm
  have m24 : m ≤ 1024 := by rw [hm]; exact LU.out
  rw [← hm] at UU ⊢
  clear hm
  have c1 : w1.cell? ⟨L, 1, none⟩ = some (.map (some rb)) := M1.out.bk.cell 1
  have ML := Lib.hid (fun ty => show (Builtin.len_ #[82] ty #[.map (some rb)]).run Tryz.prog w1 = .ok (.int .i64 (k : Int)) w1 from by rw [KE.out]; exact M1.out.mp.len keyedA Tryz.underlying82 ty s.re M1.out.nd (inF_mem s.re))
  have ML1 := ML.out 3
  by_cases hmk : m = k
  · have hmk' : ((m : Int) != (k : Int)) = false := by simp [hmk]
    have MK := Lib.hid hmk
    clear hmk
    as_aux_lemma =>
      go_wp2_with fail
      clear c1 ML1
      go_loopw [32] (fun s32 wr => ∃ j : Nat, s32 = .int .i64 (j : Int) ∧ j ≤ m ∧ Hid (LM w0 L rb B g b gs r N M und pg st S wr v s ∧ wr.ownsRow w.heap.size 3 1 (.slice ua m uc) m (U.map (Value.int .i64)) ∧ ∀ q (hq : q < U.length), q < j → U[q] ∈ s.re)) (fun s32 _ => m - (intOf s32).toNat)
      case atStart => exact ⟨0, rfl, Nat.zero_le _, Lib.hid ⟨M1.out, UU.out, fun q hq hlt => absurd hlt (Nat.not_lt_zero q)⟩⟩
      case round =>
        clear M1 UU ML
        obtain ⟨j, rfl, hjm, hI⟩ := hrel
        have M2 := Lib.hid hI.out.1
        have U2 := Lib.hid hI.out.2.1
        have AH := Lib.hid hI.out.2.2
        clear hI
        by_cases hlt : j < m
        · have HLT := Lib.hid hlt
          have hl1 : j < U.length := by rw [← ME.out]; exact hlt
          obtain ⟨x, hx⟩ : ∃ x, x = U[j] := ⟨_, rfl⟩
          have XE := Lib.hid hx
          obtain ⟨ga, gc, hge, hcell⟩ := row_cellA U2.out (i := j) (u := .int .i64 x) (by rw [List.getElem?_map, List.getElem?_eq_getElem hl1, ← hx]; rfl) hlt
          obtain ⟨rfl, rfl⟩ : ua = some ⟨ga, 0, none⟩ ∧ uc = gc := by
            injection hge with e1 e2 e3
            exact ⟨e1, e3⟩
          have XB := Lib.hid (OB.out x (by rw [hx]; exact List.getElem_mem _))
          have KY := keyOf_int_mk (P := Tryz.prog) (k := 3) Tryz.underlying3 (lit64 (id := x) (by have := XB.out; omega) (by have := XB.out; omega))
          have c1 : wr.cell? ⟨L, 1, none⟩ = some (.map (some rb)) := M2.out.bk.cell 1
          obtain ⟨f, hf⟩ : ∃ f, f = decide (x ∈ s.re) := ⟨_, rfl⟩
          have FF := Lib.hid hf
          have IF := Lib.hid (show (inF s.re x).isSome = f by rw [inF_some, hf])
          clear hf hx hge hjm
          as_aux_lemma =>
            go_upto_region 10 with (first | (at_lookup; refine wpList_mp_look _ rfl _ _ 82 rfl 3 81 keyedA Tryz.underlying82 (uz _) rb s.re.length (keyI (inF s.re)) rfl M2.out.mp _ _ rfl KY ?_; rw [keyI_at, inF_get, IF.out]) | fail)
            have M3 := Lib.hid (M2.out.alloc_ (.cells #[] 81))
            have U3 := Lib.hid (ow_kept U2.out ((Below.refl _ wr).alloc (Nat.le_refl _) (.cells #[] 81)))
            clear M2 U2 c1 IF hcell
            generalize wr.alloc (.cells #[] 81) = w4 at *
            cases f with
            | true =>
              have A2 := Lib.hid (show ∀ q (hq : q < U.length), q < j + 1 → U[q] ∈ s.re from fun q hq hlt => by
                by_cases e : q = j
                · subst e; rw [← XE.out]; exact of_decide_eq_true FF.out.symm
                · exact AH.out q hq (by omega))
              go_wp2
              go_roundw
              case rel => exact ⟨j + 1, by go_num, by have := HLT.out; omega, Lib.hid ⟨M3.out, U3.out, A2.out⟩⟩
              case measure => have := HLT.out; simp [intOf]; omega
            | false =>
              have NX := Lib.hid (show ¬ (U.length = k ∧ ∀ x, x ∈ U → x ∈ s.re) from fun h => of_decide_eq_false FF.out.symm (h.2 x (by rw [XE.out]; exact List.getElem_mem _)))
              go_wp2
              go_ret
              exact ⟨40, rfl, ⟨fun h => absurd h (by decide), fun h => absurd h NX.out⟩, .inr rfl, M3.out.kp⟩
        · obtain rfl : m = j := by omega
          have YE := Lib.hid (show U.length = k ∧ ∀ x, x ∈ U → x ∈ s.re from ⟨ME.out.symm.trans MK.out, fun x hx => by
            obtain ⟨q, hq, rfl⟩ := List.getElem_of_mem hx
            exact AH.out q hq (by rw [ME.out]; exact hq)⟩)
          clear hlt hjm AH
          go_wp2
          go_ret
          exact ⟨0, rfl, ⟨fun _ => YE.out, fun _ => rfl⟩, .inl rfl, M2.out.kp⟩
  · have hmk' : ((m : Int) != (k : Int)) = true := by simp; omega
    have NX := Lib.hid (show ¬ (U.length = k ∧ ∀ x, x ∈ U → x ∈ s.re) from fun h => hmk (ME.out.trans h.1))
    clear hmk
    go_wp2
    go_ret
    exact ⟨40, rfl, ⟨fun h => absurd h (by decide), fun h => absurd h NX.out⟩, .inr rfl, M1.out.kp⟩
theorem LM.reset {w0 w : World} {L rb B g b gs r N M : Nat} {und pg : Nat → Pg} {st st' : Int} {S : Nat → Prop} {v : Value} {s : LkS} (h : LM w0 L rb B g b gs r N M und pg st S w v s) : LM w0 L rb B g b gs r N M und pg st' S ((w.setCell ⟨L, 2, none⟩ (.int .i64 st')).setCell ⟨L, 3, none⟩ (.slice none 0 0)) (.slice none 0 0) ⟨s.re, []⟩ := by
  have hl := h.l0.1
  have b1 := (h.bk.set 2 (.int .i64 st')).set 3 (.slice none 0 0)
  refine ⟨h.sv, by simpa using b1, (h.mp.far (h.mp.ne_bk h.bk) _).far (h.mp.ne_bk h.bk) _, .inl ⟨rfl, rfl⟩, (h.kp.setCell hl _).setCell hl _, h.l0, h.r0, fun i hi => by have := h.sl i hi; simp [World.setCell]; exact this, h.nd, h.le, Nat.zero_le _⟩
set_option maxRecDepth 100000 in
set_option maxHeartbeats 16000000 in
theorem check_vol {w : World} {B g b gs r N M n : Nat} {und pg : Nat → Pg} {sts : Nat → Int} {kd rt : Nat → Nat} {ow : Nat → Option Int} (h : SV w B g b gs r N M und pg) (hpg : ∀ i, i < N → (pg i).ok) (hv : Vol pg n sts kd rt ow) (hn : n ≤ N) :
    Calls Tryz.prog 10 #[.pointer (some ⟨g, 0, none⟩)] w fun e w' => ∃ er : Int, e = .returned (.int .i64 er) ∧ (er = 0 ↔ Fine pg N n sts kd rt ow) ∧ (er = 0 ∨ er = 40 ∨ storesF pg N sts kd rt = none) ∧ Below w.heap.size w w' := by
  have uz : ∀ w, (zeroValue 81).run Tryz.prog w = .ok (.agg #[]) w := fun w => by kernel_rfl
  have K0 := Lib.hid (keyOf_int_mk (P := Tryz.prog) (k := 3) Tryz.underlying3 (lit64 (id := 0) (by decide) (by decide)))
  have K1 := Lib.hid (keyOf_int_mk (P := Tryz.prog) (k := 3) Tryz.underlying3 (lit64 (id := 1) (by decide) (by decide)))
  have PG := Lib.hid hpg
  have VV := Lib.hid hv
  have HN := Lib.hid hn
  have V0 := Lib.hid h
  have hmm := @run_makeMap Tryz.prog
  have MP := Lib.hid (Mp.made w Tryz.prog 3)
  obtain ⟨rb, hrb⟩ : ∃ rb, rb = w.heap.size := ⟨_, rfl⟩
  have HR := Lib.hid hrb
  rw [← hrb] at MP
  have G0 := Lib.hid (show Below w.heap.size w (w.alloc (.map #[] 0)) from (Below.refl _ w).alloc (Nat.le_refl _) _)
  clear h hpg hv hn hrb
  go_enter Tryz.func10, Tryz.ntmps10
  go_upto_region 2 with (first
    | (rw [← HR.out]; refine wpList_mp_insertA _ rfl _ _ _ 82 rfl 3 81 keyedA Tryz.underlying82 _ 0 _ rfl MP.out (by decide) _ (.agg #[]) _ rfl rfl K0.out ?_; intro wa hma hga; have MA := Lib.hid hma; have GA := Lib.hid hga; clear hma hga MP)
    | (refine wpList_mp_insertA _ rfl _ _ _ 82 rfl 3 81 keyedA Tryz.underlying82 _ 1 _ rfl MA.out (by decide) _ (.agg #[]) _ rfl rfl K1.out ?_; intro wb hmb hgb; have MB := Lib.hid hmb; have GB := Lib.hid hgb; clear hmb hgb MA)
    | fail)
  obtain ⟨L, hL⟩ : ∃ L, L = wb.heap.size := ⟨_, rfl⟩
  have M0 := Lib.hid (show LM w L rb B g b gs r N M und pg 0 (fun _ => False) (wb.alloc (.cells #[.pointer (some ⟨g, 0, none⟩), .map (some rb), .int .i64 0, .slice none 0 0] 85)) (.slice none 0 0) ⟨[1, 0], []⟩ from by
    have r0 : w.heap.size ≤ rb := Nat.le_of_eq HR.out.symm
    have k1 := bl_grow G0.out GA.out (fun k hk => by cases hk; exact r0) G0.out.size
    have k2 := bl_grow k1 GB.out (fun k hk => by cases hk; exact r0) k1.size
    have k3 := k2.alloc k2.size (.cells #[.pointer (some ⟨g, 0, none⟩), .map (some rb), .int .i64 0, .slice none 0 0] 85)
    refine ⟨V0.out, by rw [hL]; exact Bk.new wb _ _, ?_, Rk.nil _ _ _ _ _, k3, ⟨by rw [hL]; exact k2.size, fun h => h⟩, ⟨r0, fun h => h⟩, fun i hi => hi.elim, by decide, by decide, by decide⟩
    have e : (fput (fput (fun _ => none) (.int .i64 0) (.agg #[])) (.int .i64 1) (.agg #[]) : Lit → Option Value) = keyI (inF [1, 0]) := by
      have e0 : (fun _ => none : Lit → Option Value) = keyI (inF []) := by
        funext x
        cases x with
        | int q i => cases q <;> rfl
        | _ => rfl
      rw [e0, keyI_put, inF_put, keyI_put, inF_put]
    rw [← e]
    exact MB.out.alloc _)
  rw [← hL]
  clear hmm K0 K1 G0 GA GB MB HR hL V0
  generalize wb.alloc (.cells #[.pointer (some ⟨g, 0, none⟩), .map (some rb), .int .i64 0, .slice none 0 0] 85) = w1 at *
  obtain ⟨F, hF⟩ : ∃ F, F = storeF pg N sts kd rt := ⟨_, rfl⟩
  have FE := Lib.hid hF
  have FN := Lib.hid (show (List.range 6).foldlM F ⟨[1, 0], []⟩ = none → (¬ Fine pg N n sts kd rt ow) ∧ storesF pg N sts kd rt = none from fun h1 => by
    have h3 : storesF pg N sts kd rt = none := by unfold storesF; rw [← hF]; exact h1
    refine ⟨fun ⟨s, h2, _⟩ => ?_, h3⟩
    rw [h3] at h2
    cases h2)
  clear hF
  as_aux_lemma =>
    go_wp2_with fail
    go_loopw [4] (fun s4 wr => ∃ (j : Nat) (st : Int) (v : Value) (s : LkS), s4 = .int .i64 ((j : Int) + 1) ∧ j ≤ 6 ∧ Hid (LM w L rb B g b gs r N M und pg st (fun _ => False) wr v s ∧ (List.range j).foldlM F ⟨[1, 0], []⟩ = some s)) (fun s4 _ => 7 - (intOf s4).toNat)
    case atStart => exact ⟨0, 0, _, _, rfl, Nat.zero_le _, Lib.hid ⟨M0.out, rfl⟩⟩
    case round =>
      clear M0
      obtain ⟨j, st, v, s, rfl, hj6, hI⟩ := hrel
      have M1 := Lib.hid hI.out.1
      have RF := Lib.hid hI.out.2
      clear hI
      by_cases hlt : j < 6
      · have HLT := Lib.hid hlt
        have hle : (j : Int) + 1 ≤ 6 := by omega
        have CF := Lib.hid (find_vol M1.out.svw VV.out ((j : Int) + 1))
        have JE := Lib.hid (show ((j : Int) + 1 - 1).toNat = j by omega)
        have NOB := Lib.hid (fun (hx : F s j = none) => FN.out (fold_stop RF.out hx HLT.out))
        have FS := Lib.hid (show F s j = if sts j = 0 then some s else if kd j = 1 then chainF pg N ((j : Int) + 1) 1025 ⟨s.re, []⟩ (rt j : Int) else treeF pg N ((j : Int) + 1) ⟨s.re, []⟩ (rt j) from by rw [FE.out]; rfl)
        clear hj6 hlt
        as_aux_lemma =>
          go_wp2_with fail
          refine CF.out.mono ?_
          rintro e w2 (⟨hno, rfl, hb⟩ | ⟨hyes, rfl, hb⟩)
          · have M2 := Lib.hid (M1.out.kept hb)
            have R2 := Lib.hid (show (List.range (j + 1)).foldlM F ⟨[1, 0], []⟩ = some s from by
              rw [fold_step RF.out, FS.out, if_pos]
              refine Classical.byContradiction fun hne => hno ⟨by omega, by omega, by rw [JE.out]; exact hne⟩)
            clear hno hb CF M1
            go_wp2
            go_roundw
            case rel => exact ⟨j + 1, _, _, _, by go_num, by have := HLT.out; omega, Lib.hid ⟨M2.out, R2.out⟩⟩
            case measure => have := HLT.out; simp [intOf]; omega
          · rw [JE.out] at hyes ⊢
            have M2 := Lib.hid (M1.out.kept hb)
            have SN := Lib.hid hyes.2.2
            have KR := Lib.hid (show kd j < 256 ∧ rt j < 1024 from (VV.out.d.d j HLT.out (by rw [VV.out.st j HLT.out]; exact hyes.2.2)).2)
            have FS2 := Lib.hid (FS.out.trans (if_neg SN.out))
            obtain ⟨kk, hkk⟩ : ∃ kk, kk = kd j := ⟨_, rfl⟩
            obtain ⟨rr, hrr⟩ : ∃ rr, rr = rt j := ⟨_, rfl⟩
            rw [← hkk, ← hrr] at KR FS2 ⊢
            clear hyes hb CF M1 FS hkk hrr
            have f2 : w2.frozen? ⟨L, 2, none⟩ = false := M2.out.bk.fz 2
            have c2 : w2.cell? ⟨L, 2, none⟩ = some (.int .i64 st) := M2.out.bk.cell 2
            have M3 := Lib.hid (M2.out.reset (st' := (j : Int) + 1))
            have b3 := M2.out.bk.set 2 (.int .i64 ((j : Int) + 1))
            have f3 : (w2.setCell ⟨L, 2, none⟩ (.int .i64 ((j : Int) + 1))).frozen? ⟨L, 3, none⟩ = false := b3.fz 3
            have c3 : (w2.setCell ⟨L, 2, none⟩ (.int .i64 ((j : Int) + 1))).cell? ⟨L, 3, none⟩ = some v := b3.cell 3
            obtain ⟨va, vc, hvv⟩ := M2.out.row.slice
            subst hvv
            clear b3
            go_upto_region 10 with fail
            clear f2 c2 f3 c3 M2
            generalize (w2.setCell ⟨L, 2, none⟩ (.int .i64 ((j : Int) + 1))).setCell ⟨L, 3, none⟩ (.slice none 0 0) = w3 at *
            by_cases k1 : kk = 1
            · subst k1
              have FS3 := Lib.hid (FS2.out.trans (if_pos rfl))
              have CC := Lib.hid (chain_any M3.out PG.out (rr : Int) (by omega) (by have := KR.out; omega))
              rw [← FS3.out] at CC
              as_aux_lemma =>
                go_wp2_with fail
                refine CC.out.mono ?_
                rintro e w4 ⟨er, rfl, hr⟩
                clear CC
                rcases hr with ⟨s', v', hs, rfl, hM, hK⟩ | ⟨hs, hne, hb⟩
                · have M4 := Lib.hid hM
                  have R4 := Lib.hid (show (List.range (j + 1)).foldlM F ⟨[1, 0], []⟩ = some s' from by rw [fold_step RF.out]; exact hs)
                  clear hM hK hs
                  go_wp2
                  go_roundw
                  case rel => exact ⟨j + 1, _, _, _, by go_num, by have := HLT.out; omega, Lib.hid ⟨M4.out, R4.out⟩⟩
                  case measure => have := HLT.out; simp [intOf]; omega
                · have hne' : (er != 0) = true := by simp [hne]
                  have NO := Lib.hid (NOB.out hs)
                  have NE2 := Lib.hid hne
                  have HB := Lib.hid hb
                  clear hs hne hb
                  go_wp2
                  go_ret
                  exact ⟨er, rfl, ⟨fun h => absurd h NE2.out, fun h => absurd h NO.out.1⟩, .inr (.inr NO.out.2), HB.out⟩
            · have k1' : ((kk : Int) == 1) = false := by simp; omega
              have k1n : ¬ ((kk : Int) = 1) := by omega
              have FS3 := Lib.hid (FS2.out.trans (if_neg k1))
              have CC := Lib.hid (atree_any M3.out PG.out rr KR.out.2)
              rw [← FS3.out] at CC
              clear k1
              as_aux_lemma =>
                go_wp2_with fail
                refine CC.out.mono ?_
                rintro e w4 ⟨er, rfl, hr⟩
                clear CC
                rcases hr with ⟨s', v', hs, rfl, hM, hK⟩ | ⟨hs, hne, hb⟩
                · have M4 := Lib.hid hM
                  have R4 := Lib.hid (show (List.range (j + 1)).foldlM F ⟨[1, 0], []⟩ = some s' from by rw [fold_step RF.out]; exact hs)
                  clear hM hK hs
                  go_wp2
                  go_roundw
                  case rel => exact ⟨j + 1, _, _, _, by go_num, by have := HLT.out; omega, Lib.hid ⟨M4.out, R4.out⟩⟩
                  case measure => have := HLT.out; simp [intOf]; omega
                · have hne' : (er != 0) = true := by simp [hne]
                  have NO := Lib.hid (NOB.out hs)
                  have NE2 := Lib.hid hne
                  have HB := Lib.hid hb
                  clear hs hne hb
                  go_wp2
                  go_ret
                  exact ⟨er, rfl, ⟨fun h => absurd h NE2.out, fun h => absurd h NO.out.1⟩, .inr (.inr NO.out.2), HB.out⟩
      · obtain rfl : j = 6 := by omega
        have hle : ¬ (((6 : Nat) : Int) + 1 ≤ 6) := by decide
        have CO := Lib.hid (owners_any M1.out VV.out HN.out)
        have FI := Lib.hid (show Fine pg N n sts kd rt ow ↔ ((owL ow n).length = s.re.length ∧ ∀ x, x ∈ owL ow n → x ∈ s.re) from by
          unfold Fine storesF
          rw [← FE.out, RF.out]
          constructor
          · rintro ⟨s2, h2, h3⟩
            injection h2 with h2
            subst h2
            exact h3
          · intro h3; exact ⟨s, rfl, h3⟩)
        clear hlt hj6
        as_aux_lemma =>
          go_wp2_with fail
          refine CO.out.mono ?_
          rintro e w2 ⟨er, rfl, he, h40, hb⟩
          have FIN := Lib.hid (show er = 0 ↔ Fine pg N n sts kd rt ow from he.trans FI.out.symm)
          have HB := Lib.hid hb
          have E40 := Lib.hid (show er = 0 ∨ er = 40 ∨ storesF pg N sts kd rt = none from h40.elim .inl fun h => .inr (.inl h))
          clear he hb CO h40
          go_wp2
          go_ret
          exact ⟨er, rfl, FIN.out, E40.out, HB.out⟩
end Go.Proofs.YtelbioooggnbiaaGreat
namespace Go.Proofs.YtelbioooggnbiaaGreat
open Go.RowKit Go.Maps Go.Shelf

theorem SV.r_ge {w : World} {B g b gs r N M : Nat} {und pg : Nat → Pg} (h : SV w B g b gs r N M und pg) : B ≤ r := by
  obtain ⟨m, ps, l, h0, _⟩ := h.ex
  exact h0.sh.br
/-- A directory that can't be read. -/
def DirE (x : Value) (er : Int) (w : World) : Prop := ∃ q : Pg, ∀ w', Below w.heap.size w w' → Calls Tryz.prog 39 #[x] w' fun e w'' => e = .returned (.tuple #[.agg q.cs, .int .i64 er]) ∧ Below w'.heap.size w' w''
set_option maxRecDepth 100000 in
set_option maxHeartbeats 4000000 in
theorem find_err {x : Value} {er : Int} {w : World} (h : DirE x er w) (hne : er ≠ 0) (s : Int) : Calls Tryz.prog 31 #[x, .int .i64 s] w fun e w' => e = .returned (.tuple #[.int .i64 0, .int .i64 0, .int .i64 0, .int .i64 er]) ∧ Below w.heap.size w w' := by
  obtain ⟨q, hq⟩ := h
  have CD := Lib.hid (hq w (Below.refl _ _))
  have hne' : (er != 0) = true := by simp [hne]
  clear hq
  go_enter Tryz.func31, Tryz.ntmps31
  go_wp2_with fail
  refine CD.out.mono ?_
  rintro e w1 ⟨rfl, hb⟩
  have HB := Lib.hid hb
  clear CD hb hne
  go_wp2_with (first | (refine store_page_new rfl _ _ rfl q rfl rfl ?_) | fail)
  refine bodyPost_ret (v := .tuple #[.int .i64 0, .int .i64 0, .int .i64 0, .int .i64 er]) (by simp [results, Tryz.results31, go_sem]) rfl ?_
  exact ⟨rfl, HB.out.alloc HB.out.size _⟩
set_option maxRecDepth 100000 in
set_option maxHeartbeats 4000000 in
theorem dir_nil (w : World) : DirE (.pointer none) 1 w := by
  refine ⟨Pg.zero, fun w' _ => ?_⟩
  have Z := Lib.hid (Bk.new w' 38 Pg.zero.cs)
  have B0 := Lib.hid ((Below.refl w'.heap.size w').alloc (Nat.le_refl _) (.cells Pg.zero.cs 38))
  have CG := Lib.hid (fun w : World => show Calls Tryz.prog 13 #[.pointer none, .int .i64 0] w (PgPost (Pg.zero, 1) w) from by
    have Z := Lib.hid (Bk.new w 38 Pg.zero.cs)
    go_enter Tryz.func13, Tryz.ntmps13
    go_wp2_with (first | (refine store_page rfl _ _ rfl w.heap.size Pg.zero Pg.zero rfl rfl Z.out ?_) | fail)
    refine bodyPost_ret (page_res rfl _ _ w.heap.size Pg.zero.cs (row_bk Z.out) rfl rfl) rfl ?_
    exact ⟨rfl, below_row ((Below.refl w.heap.size w).alloc (Nat.le_refl _) _) (Nat.le_refl _)⟩)
  go_enter Tryz.func39, Tryz.ntmps39
  go_upto_region 1 with fail
  change Code.wp _ _ _ _ (w'.alloc (.cells Pg.zero.cs 38))
  generalize w'.alloc (.cells Pg.zero.cs 38) = w0 at *
  obtain ⟨G, hG⟩ : ∃ G, G = w'.heap.size := ⟨_, rfl⟩
  rw [← hG] at Z ⊢
  have GL := Lib.hid (show w'.heap.size ≤ G from Nat.le_of_eq hG.symm)
  clear hG
  go_wp2_with fail
  refine (CG.out _).mono ?_
  rintro e w1 ⟨rfl, hb⟩
  have Z1 := Lib.hid ((Z.out.kept hb).alloc (.cells Pg.zero.cs 38))
  have B1 := Lib.hid ((below_then B0.out hb B0.out.size).alloc (Nat.le_trans B0.out.size hb.size) (.cells Pg.zero.cs 38))
  clear hb CG Z B0
  go_wp2_with (first | (refine store_page_new rfl _ _ rfl Pg.zero rfl rfl ?_) | (refine store_page rfl _ _ rfl G Pg.zero Pg.zero rfl rfl Z1.out ?_) | fail)
  refine bodyPost_ret (page_res rfl _ _ G Pg.zero.cs (row_bk Z1.out) rfl rfl) rfl ?_
  exact ⟨rfl, below_row B1.out GL.out⟩
set_option maxRecDepth 100000 in
set_option maxHeartbeats 4000000 in
theorem dir_bad {w : World} {B g b gs r N M : Nat} {und pg : Nat → Pg} (h : SV w B g b gs r N M und pg) (hk : (pg 0).k ≠ 1) : DirE (.pointer (some ⟨g, 0, none⟩)) 40 w := by
  refine ⟨Pg.zero, fun w' hbw => ?_⟩
  have hw := h.kept hbw
  have H0 := Lib.hid (hw.alloc (.cells Pg.zero.cs 38))
  have Z := Lib.hid (Bk.new w' 38 Pg.zero.cs)
  have B0 := Lib.hid ((Below.refl w'.heap.size w').alloc (Nat.le_refl _) (.cells Pg.zero.cs 38))
  have CG := sv_get H0.out 0 (by have := h.most; omega)
  rw [show ((0 : Nat) : Int) = 0 from rfl] at CG
  have CG := Lib.hid CG
  obtain ⟨p, hp⟩ : ∃ p, p = pg 0 := ⟨_, rfl⟩
  rw [← hp] at CG hk
  have hk' : (p.k != 1) = true := by simp [hk]
  clear h hw hp hbw hk
  go_enter Tryz.func39, Tryz.ntmps39
  go_upto_region 1 with fail
  change Code.wp _ _ _ _ (w'.alloc (.cells Pg.zero.cs 38))
  generalize w'.alloc (.cells Pg.zero.cs 38) = w0 at *
  obtain ⟨G, hG⟩ : ∃ G, G = w'.heap.size := ⟨_, rfl⟩
  rw [← hG] at Z ⊢
  have GL := Lib.hid (show w'.heap.size ≤ G from Nat.le_of_eq hG.symm)
  clear hG
  go_wp2_with fail
  refine CG.out.mono ?_
  rintro e w1 ⟨rfl, hb⟩
  have Z1 := Lib.hid ((Z.out.kept hb).alloc (.cells p.cs 38))
  have B1 := Lib.hid ((below_then B0.out hb B0.out.size).alloc (Nat.le_trans B0.out.size hb.size) (.cells p.cs 38))
  obtain ⟨K, hK⟩ : ∃ K, K = w1.heap.size := ⟨_, rfl⟩
  have BK := Lib.hid (show Bk (w1.alloc (.cells p.cs 38)) K 38 p.cs from by rw [hK]; exact Bk.new w1 _ _)
  clear hb CG Z B0 H0
  go_upto_region 2 with (first | (refine store_page_new rfl _ _ rfl p rfl rfl ?_; rw [← hK]; clear hK; generalize w1.alloc (.cells p.cs 38) = w2 at *) | fail)
  have k0 : w2.cell? ⟨K, 0, none⟩ = some (.int .i64 p.k) := BK.out.cell 0
  go_wp2_with (first | (refine store_page rfl _ _ rfl G Pg.zero Pg.zero rfl rfl Z1.out ?_) | fail)
  refine bodyPost_ret (page_res rfl _ _ G Pg.zero.cs (row_bk Z1.out) rfl rfl) rfl ?_
  exact ⟨rfl, below_row B1.out GL.out⟩
set_option maxRecDepth 100000 in
set_option maxHeartbeats 4000000 in
theorem check_err {x : Value} {er : Int} {w : World} (h : DirE x er w) (hne : er ≠ 0) (h190 : er ≠ 190) (hx : ∃ o, x = .pointer o) : Calls Tryz.prog 10 #[x] w fun e w' => e = .returned (.int .i64 er) ∧ Below w.heap.size w w' := by
  obtain ⟨o, rfl⟩ := hx
  have K0 := Lib.hid (keyOf_int_mk (P := Tryz.prog) (k := 3) Tryz.underlying3 (lit64 (id := 0) (by decide) (by decide)))
  have K1 := Lib.hid (keyOf_int_mk (P := Tryz.prog) (k := 3) Tryz.underlying3 (lit64 (id := 1) (by decide) (by decide)))
  have DE := Lib.hid h
  have hmm := @run_makeMap Tryz.prog
  have MP := Lib.hid (Mp.made w Tryz.prog 3)
  obtain ⟨rb, hrb⟩ : ∃ rb, rb = w.heap.size := ⟨_, rfl⟩
  have HR := Lib.hid hrb
  rw [← hrb] at MP
  have G0 := Lib.hid (show Below w.heap.size w (w.alloc (.map #[] 0)) from (Below.refl _ w).alloc (Nat.le_refl _) _)
  have e1 : (er != 0) = true := by simp [hne]
  have e2 : (er == 190) = false := by simp [h190]
  have HN := Lib.hid hne
  clear h hne h190 hrb
  go_enter Tryz.func10, Tryz.ntmps10
  go_upto_region 2 with (first
    | (rw [← HR.out]; refine wpList_mp_insertA _ rfl _ _ _ 82 rfl 3 81 keyedA Tryz.underlying82 _ 0 _ rfl MP.out (by decide) _ (.agg #[]) _ rfl rfl K0.out ?_; intro wa hma hga; have MA := Lib.hid hma; have GA := Lib.hid hga; clear hma hga MP)
    | (refine wpList_mp_insertA _ rfl _ _ _ 82 rfl 3 81 keyedA Tryz.underlying82 _ 1 _ rfl MA.out (by decide) _ (.agg #[]) _ rfl rfl K1.out ?_; intro wb hmb hgb; have GB := Lib.hid hgb; clear hmb hgb MA)
    | fail)
  have B1 := Lib.hid (show Below w.heap.size w (wb.alloc (.cells #[.pointer o, .map (some rb), .int .i64 0, .slice none 0 0] 85)) from by
    have r0 : w.heap.size ≤ rb := Nat.le_of_eq HR.out.symm
    have k1 := bl_grow G0.out GA.out (fun k hk => by cases hk; exact r0) G0.out.size
    have k2 := bl_grow k1 GB.out (fun k hk => by cases hk; exact r0) k1.size
    exact k2.alloc k2.size _)
  clear hmm K0 K1 G0 GA GB HR
  generalize wb.alloc (.cells #[.pointer o, .map (some rb), .int .i64 0, .slice none 0 0] 85) = w1 at *
  have CF := Lib.hid (find_err (x := .pointer o) (er := er) (w := w1) (by obtain ⟨q, hq⟩ := DE.out; exact ⟨q, fun w' hb => hq w' (below_then B1.out hb B1.out.size)⟩) HN.out 1)
  go_wp2_with fail
  go_loopw [4] (fun s4 wr => s4 = .int .i64 1 ∧ wr = w1) (fun _ _ => 0)
  case atStart => exact ⟨rfl, rfl⟩
  case round =>
    obtain ⟨rfl, rfl⟩ := hrel
    go_wp2_with fail
    refine CF.out.mono ?_
    rintro e w2 ⟨rfl, hb⟩
    have HB := Lib.hid (below_then B1.out hb B1.out.size)
    clear CF hb
    go_wp2
    go_ret
    exact ⟨rfl, HB.out⟩
end Go.Proofs.YtelbioooggnbiaaGreat
namespace Go.Proofs.YtelbioooggnbiaaGreat
open Go.RowKit Go.Maps Go.Shelf

structure Flat (pg : Nat → Pg) (N n : Nat) (st : Nat → Int) (kd rt : Nat → Nat) (ow : Nat → Option Int) : Prop where
  vol : Vol pg n st kd rt ow
  root : ∀ j, j < 6 → st j ≠ 0 → (2 ≤ rt j ∧ rt j < n) ∧ pg (rt j) = newPg (kd j) j ∧ ow (rt j) = some ((j : Int) + 1)
  ok : ∀ i, i < N → (pg i).ok
def Whole (n : Nat) (st : Nat → Int) (rt : Nat → Nat) (ow : Nat → Option Int) : Prop := ∀ i, i < n → (ow i).isSome = true → i < 2 ∨ ∃ j, j < 6 ∧ st j ≠ 0 ∧ rt j = i
def rsF (st : Nat → Int) (rt : Nat → Nat) : Nat → List Int
  | 0 => [1, 0]
  | j + 1 => if st j = 0 then rsF st rt j else (rt j : Int) :: rsF st rt j
theorem rsF_mem {st : Nat → Int} {rt : Nat → Nat} : ∀ {j : Nat} {x : Int}, x ∈ rsF st rt j ↔ x = 0 ∨ x = 1 ∨ ∃ i, i < j ∧ st i ≠ 0 ∧ x = (rt i : Int)
  | 0, x => by
    unfold rsF
    simp
    omega
  | j + 1, x => by
    rw [rsF]
    by_cases h : st j = 0
    · rw [if_pos h, rsF_mem]
      constructor
      · rintro (h1 | h1 | ⟨i, h1, h2, h3⟩)
        · exact .inl h1
        · exact .inr (.inl h1)
        · exact .inr (.inr ⟨i, by omega, h2, h3⟩)
      · rintro (h1 | h1 | ⟨i, h1, h2, h3⟩)
        · exact .inl h1
        · exact .inr (.inl h1)
        · refine .inr (.inr ⟨i, ?_, h2, h3⟩)
          rcases Nat.lt_succ_iff_lt_or_eq.1 h1 with h4 | h4
          · exact h4
          · subst h4; exact absurd h h2
    · rw [if_neg h, List.mem_cons, rsF_mem]
      constructor
      · rintro (h0 | h1 | h1 | ⟨i, h1, h2, h3⟩)
        · exact .inr (.inr ⟨j, by omega, h, h0⟩)
        · exact .inl h1
        · exact .inr (.inl h1)
        · exact .inr (.inr ⟨i, by omega, h2, h3⟩)
      · rintro (h1 | h1 | ⟨i, h1, h2, h3⟩)
        · exact .inr (.inl h1)
        · exact .inr (.inr (.inl h1))
        · rcases Nat.lt_succ_iff_lt_or_eq.1 h1 with h4 | h4
          · exact .inr (.inr (.inr ⟨i, h4, h2, h3⟩))
          · subst h4; exact .inl h3
theorem rsF_len (st : Nat → Int) (rt : Nat → Nat) : ∀ j, (rsF st rt j).length ≤ j + 2
  | 0 => by simp [rsF]
  | j + 1 => by
    have := rsF_len st rt j
    rw [rsF]
    split
    · omega
    · simp; omega
theorem newPg_node (kind j : Nat) (hk : kind ≠ 1) (hj : j < 6) : nodeOk (newPg kind j) ∧ cnt (newPg kind j).c = 0 := by
  have e : newPg kind j = pgK 4 ((j : Int) + 1) := by unfold newPg; rw [if_neg hk]
  rw [e]
  have := mk_node (pgK 4 ((j : Int) + 1)) 0 (by omega) rfl (show (0 : Int) ≤ 0 from Int.le_refl _) (fun h => absurd h (show ¬ (0 : Int) < 0 by decide)) (fun q hq => absurd hq (Nat.not_lt_zero q)) (fun q _ _ => ⟨rfl, rfl⟩) (fun q hq => absurd hq (Nat.not_lt_zero _))
  exact ⟨nodeOk_of this.1, this.2⟩
section
variable {pg : Nat → Pg} {N n : Nat} {st : Nat → Int} {kd rt : Nat → Nat} {ow : Nat → Option Int}
theorem Flat.inj (h : Flat pg N n st kd rt ow) {i j : Nat} (hi : i < 6) (hj : j < 6) (si : st i ≠ 0) (sj : st j ≠ 0) (e : rt i = rt j) : i = j := by
  have a := (h.root i hi si).2.2
  have b := (h.root j hj sj).2.2
  rw [e, b] at a
  have := Option.some.inj a
  omega
theorem Flat.fold (h : Flat pg N n st kd rt ow) (hn : n ≤ N) : ∀ j, j ≤ 6 → ∃ lv, (List.range j).foldlM (storeF pg N st kd rt) ⟨[1, 0], []⟩ = some ⟨rsF st rt j, lv⟩
  | 0, _ => ⟨[], rfl⟩
  | j + 1, hj => by
    obtain ⟨lv, hf⟩ := h.fold hn j (by omega)
    rw [fold_step hf]
    unfold storeF
    rw [rsF]
    by_cases hs : st j = 0
    · rw [if_pos hs, if_pos hs]; exact ⟨lv, rfl⟩
    · rw [if_neg hs, if_neg hs]
      obtain ⟨⟨r2, rn⟩, rp, ro⟩ := h.root j (by omega) hs
      have hl := rsF_len st rt j
      have hr : reachF pg N ((j : Int) + 1) ⟨rsF st rt j, []⟩ (rt j : Int) = some ⟨(rt j : Int) :: rsF st rt j, []⟩ := by
        unfold reachF
        rw [if_neg, if_pos]
        · rw [Int.toNat_natCast, rp]
          exact ⟨⟨by omega, by omega⟩, rfl⟩
        · rintro (h1 | h1)
          · rcases rsF_mem.1 h1 with h2 | h2 | ⟨i, h2, h3, h4⟩
            · omega
            · omega
            · have := h.inj (by omega) (by omega) hs h3 (by omega)
              omega
          · have h1 : 1024 ≤ (rsF st rt j).length := h1
            omega
      by_cases hk : kd j = 1
      · rw [if_pos hk]
        refine ⟨[], ?_⟩
        rw [show (1025 : Nat) = 1024 + 1 from rfl, chainF, hr]
        show (if heapPage (pg (rt j : Int).toNat) then _ else _) = _
        rw [Int.toNat_natCast, rp]
        have e : newPg (kd j) j = pgK 3 ((j : Int) + 1) := by unfold newPg; rw [if_pos hk]
        rw [e, if_pos ⟨rfl, fun i hi => by show (0 : Nat) ≤ 32; omega⟩, if_pos (show (pgK 3 ((j : Int) + 1)).n = 0 from rfl)]
      · rw [if_neg hk]
        obtain ⟨no, nc⟩ := newPg_node (kd j) j hk (by omega)
        refine ⟨[((rt j : Int), 0)], ?_⟩
        unfold treeF
        rw [hr]
        show ((nodeF pg N ((j : Int) + 1) (pg (rt j)).l.toNat (rt j) ⟨(rt j : Int) :: rsF st rt j, []⟩ sp0).bind _) = _
        have el : (pg (rt j)).l.toNat = 0 := by rw [rp]; rfl
        have lf : leafF pg (rt j) ⟨(rt j : Int) :: rsF st rt j, []⟩ sp0 = some ⟨(rt j : Int) :: rsF st rt j, [((rt j : Int), 0)]⟩ := by
          unfold leafF
          rw [rp, if_pos (fun i hi => by rw [nc] at hi; omega)]
          rfl
        rw [el, nodeF, rp, if_pos ⟨no, by show ¬ (0 : Int) < 0; decide⟩, lf]
        rfl
theorem owL_mem {x : Int} : x ∈ owL ow n ↔ ∃ i : Nat, i < n ∧ (ow i).isSome = true ∧ x = (i : Int) := by
  unfold owL
  rw [List.mem_map]
  constructor
  · rintro ⟨i, hi, rfl⟩
    have := List.mem_filter.1 hi
    exact ⟨i, List.mem_range.1 this.1, this.2, rfl⟩
  · rintro ⟨i, h1, h2, rfl⟩
    exact ⟨i, List.mem_filter.2 ⟨List.mem_range.2 h1, h2⟩, rfl⟩
theorem owL_nodup : (owL ow n).Nodup := by
  unfold owL
  refine List.Pairwise.map _ (fun a b hab e => hab (Int.ofNat.inj e)) (List.nodup_range.sublist List.filter_sublist)
theorem Flat.nodup (h : Flat pg N n st kd rt ow) : ∀ j, j ≤ 6 → (rsF st rt j).Nodup
  | 0, _ => by unfold rsF; decide
  | j + 1, hj => by
    rw [rsF]
    by_cases hs : st j = 0
    · rw [if_pos hs]; exact h.nodup j (by omega)
    · rw [if_neg hs, List.nodup_cons]
      refine ⟨fun hm => ?_, h.nodup j (by omega)⟩
      obtain ⟨⟨r2, rn⟩, rp, ro⟩ := h.root j (by omega) hs
      rcases rsF_mem.1 hm with h2 | h2 | ⟨i, h2, h3, h4⟩
      · omega
      · omega
      · have := h.inj (by omega) (by omega) hs h3 (by omega)
        omega
theorem Flat.fine (h : Flat pg N n st kd rt ow) (hn : n ≤ N) (hw : Whole n st rt ow) : Fine pg N n st kd rt ow := by
  obtain ⟨lv, hf⟩ := h.fold hn 6 (Nat.le_refl _)
  have hlo := h.vol.lo
  have sub : ∀ x, x ∈ owL ow n → x ∈ rsF st rt 6 := fun x hx => by
    obtain ⟨i, h1, h2, rfl⟩ := owL_mem.1 hx
    rw [rsF_mem]
    rcases hw i h1 h2 with h3 | ⟨j, h3, h4, h5⟩
    · rcases (show i = 0 ∨ i = 1 by omega) with e | e
      · subst e; exact .inl rfl
      · subst e; exact .inr (.inl rfl)
    · exact .inr (.inr ⟨j, h3, h4, by rw [h5]⟩)
  have sup : ∀ x, x ∈ rsF st rt 6 → x ∈ owL ow n := fun x hx => by
    rw [owL_mem]
    rcases rsF_mem.1 hx with h1 | h1 | ⟨i, h1, h2, h3⟩
    · exact ⟨0, by omega, by rw [h.vol.z.1]; rfl, by omega⟩
    · exact ⟨1, by omega, by rw [h.vol.z.2]; rfl, by omega⟩
    · obtain ⟨⟨r2, rn⟩, rp, ro⟩ := h.root i h1 h2
      exact ⟨rt i, rn, by rw [ro]; rfl, h3⟩
  exact ⟨_, hf, Nat.le_antisymm (nodup_len_le _ _ owL_nodup sub) (nodup_len_le _ _ (h.nodup 6 (Nat.le_refl _)) sup), sub⟩
theorem Flat.extra (h : Flat pg N n st kd rt ow) (hn : n ≤ N) {x : Nat} (h2 : 2 ≤ x) (hx : x < n) (ho : (ow x).isSome = true) (hr : ∀ j, j < 6 → st j ≠ 0 → rt j ≠ x) : ¬ Fine pg N n st kd rt ow ∧ storesF pg N st kd rt ≠ none := by
  obtain ⟨lv, hf⟩ := h.fold hn 6 (Nat.le_refl _)
  refine ⟨fun ⟨s, h3, h4, h5⟩ => ?_, fun h3 => ?_⟩
  · unfold storesF at h3
    rw [hf] at h3
    injection h3 with h3
    subst h3
    rcases rsF_mem.1 (h5 (x : Int) (owL_mem.2 ⟨x, hx, ho, rfl⟩)) with h6 | h6 | ⟨i, h6, h7, h8⟩
    · omega
    · omega
    · exact hr i h6 h7 (by omega)
  · unfold storesF at h3
    rw [hf] at h3
    cases h3
theorem flat_new (pg : Nat → Pg) (N n : Nat) (h1 : 4 ≤ n) (h2 : n ≤ 1024) (hok : ∀ i, (pg i).ok) : Flat (upd (upd pg 0 dir0) 1 (mapN n)) N n (fun _ => 0) (fun _ => 0) (fun _ => 0) ow0 ∧ Whole n (fun _ => 0) (fun _ => 0) ow0 := by
  refine ⟨⟨vol_new pg n h1 h2, fun j hj hs => absurd rfl hs, fun i hi => ?_⟩, fun i hi ho => ?_⟩
  · unfold upd
    split
    · exact (mapN_ok n h1 h2).ok
    · split
      · exact dir0_ok
      · exact hok i
  · left
    unfold ow0 at ho
    by_cases e : i < 2
    · exact e
    · rw [if_neg e] at ho; cases ho
/-- A store more. -/
theorem Flat.make (h : Flat pg N n st kd rt ow) (hw : Whole n st rt ow) {j id : Nat} (hj : j < 6) (hs : st j = 0) (h2 : 2 ≤ id) (hid : id < n) (ho : ow id = none) {kind : Nat} (hk : kind < 256) :
    Flat (upd (upd (upd pg 1 (mrk (pg 1) id true)) id (newPg kind j)) 0 (putC (pg 0) j ⟨1, stoD kind id⟩)) N n (put st j 1) (put kd j kind) (put rt j id) (put ow id (some ((j : Int) + 1))) ∧ Whole n (put st j 1) (put rt j id) (put ow id (some ((j : Int) + 1))) := by
  have hl := h.vol.lo
  have nid : ∀ i, i < 6 → st i ≠ 0 → rt i ≠ id := fun i hi si e => by
    have := (h.root i hi si).2.2
    rw [e, ho] at this
    cases this
  refine ⟨⟨h.vol.make j id hj h2 hid kind hk, fun i hi si => ?_, fun i hi => ?_⟩, fun i hi hoi => ?_⟩
  · by_cases e : i = j
    · subst e
      rw [put_at, put_at, put_at]
      refine ⟨⟨h2, hid⟩, ?_, rfl⟩
      unfold upd
      rw [if_neg (by omega), if_pos rfl]
    · rw [put_ne _ _ e] at si
      rw [put_ne _ _ e, put_ne _ _ e]
      obtain ⟨⟨r2, rn⟩, rp, ro⟩ := h.root i hi si
      refine ⟨⟨r2, rn⟩, ?_, ?_⟩
      · unfold upd
        rw [if_neg (by omega), if_neg (nid i hi si), if_neg (by omega)]
        exact rp
      · rw [put_ne _ _ (nid i hi si)]; exact ro
  · unfold upd
    split
    · exact putC_ok h.vol.d.ok j _ (by rw [stoD_size]; omega)
    · split
      · exact newPg_ok kind j hj
      · split
        · exact (h.vol.m.mrk id true).ok
        · exact h.ok i hi
  · by_cases e : i = id
    · exact .inr ⟨j, hj, by rw [put_at]; decide, by rw [put_at]; exact e.symm⟩
    · rw [put_ne _ _ e] at hoi
      rcases hw i hi hoi with h3 | ⟨q, h3, h4, h5⟩
      · exact .inl h3
      · have hq : q ≠ j := fun e => h4 (by rw [e]; exact hs)
        exact .inr ⟨q, h3, by rw [put_ne _ _ hq]; exact h4, by rw [put_ne _ _ hq]; exact h5⟩
/-- A page is taken, or given back. -/
theorem Flat.mark (h : Flat pg N n st kd rt ow) {id : Nat} {ow' : Nat → Option Int} {on : Bool} (hv : Vol (upd pg 1 (mrk (pg 1) id on)) n st kd rt ow') (hne : ∀ i, i ≠ id → ow' i = ow i) (nid : ∀ i, i < 6 → st i ≠ 0 → rt i ≠ id) : Flat (upd pg 1 (mrk (pg 1) id on)) N n st kd rt ow' := by
  refine ⟨hv, fun j hj hs => ?_, fun i hi => ?_⟩
  · obtain ⟨⟨r2, rn⟩, rp, ro⟩ := h.root j hj hs
    refine ⟨⟨r2, rn⟩, ?_, by rw [hne _ (nid j hj hs)]; exact ro⟩
    unfold upd
    rw [if_neg (by omega)]
    exact rp
  · unfold upd
    split
    · exact (h.vol.m.mrk id on).ok
    · exact h.ok i hi
end
end Go.Proofs.YtelbioooggnbiaaGreat
namespace Go.Proofs.YtelbioooggnbiaaGreat
open Go.RowKit Go.Maps Go.Shelf

theorem SV.touch {w w' : World} {B g b gs r N M : Nat} {und pg : Nat → Pg} (h : SV w B g b gs r N M und pg) {w0 : World} (hB : Below w0.heap.size w0 w) (e : B = w0.heap.size) {k : Nat} (hg : w.grownBy w' (some k)) (hk : k = b ∨ k = r) : Below w0.heap.size w0 w' :=
  bl_grow hB hg (fun j hj => by cases hj; rcases hk with rfl | rfl; rw [← e]; exact h.b_ge; rw [← e]; exact h.r_ge) hB.size
/-- Between the calls. -/
structure Au (w0 w : World) (g b gs r N n m : Nat) (u : Prop) : Prop where
  ex : ∃ M und pg st kd rt ow, SV w w0.heap.size g b gs r N M und pg ∧ (M ≤ m ∧ m ≤ 1000) ∧ (u → Flat und N n st kd rt ow) ∧ Flat pg N n st kd rt ow ∧ Whole n st rt ow
  hn : n ≤ N
  kp : Below w0.heap.size w0 w
/-- Behind a Make. -/
structure AuM (w0 w : World) (g b gs r N n : Nat) (er : Int) : Prop where
  ex : ∃ M und pg, SV w w0.heap.size g b gs r N M und pg ∧ ∃ st kd rt ow, Flat (landed er und pg) N n st kd rt ow ∧ Whole n st rt ow
  hn : n ≤ N
  kp : Below w0.heap.size w0 w
/-- Behind a Take. -/
structure AuT (w0 w : World) (g b gs r N n m id : Nat) (u : Prop) : Prop where
  ex : ∃ M und pg st kd rt ow ow', SV w w0.heap.size g b gs r N M und pg ∧ (M ≤ m ∧ m ≤ 1001) ∧ (u → Flat und N n st kd rt ow) ∧ Flat pg N n st kd rt ow' ∧ Whole n st rt ow ∧ (2 ≤ id ∧ id < n) ∧ ow id = none ∧ (ow' id).isSome = true ∧ (∀ i, i ≠ id → ow' i = ow i) ∧ ∀ j, j < 6 → st j ≠ 0 → rt j ≠ id
  hn : n ≤ N
  kp : Below w0.heap.size w0 w
section
variable {w0 w w' : World} {g b gs r N n m : Nat} {u : Prop}
theorem Au.kept (h : Au w0 w g b gs r N n m u) (hb : Below w.heap.size w w') : Au w0 w' g b gs r N n m u := by
  obtain ⟨M, und, pg, st, kd, rt, ow, h1, h2⟩ := h.ex
  exact ⟨⟨M, und, pg, st, kd, rt, ow, h1.kept hb, h2⟩, h.hn, below_then h.kp hb h.kp.size⟩
theorem AuT.kept {id : Nat} (h : AuT w0 w g b gs r N n m id u) (hb : Below w.heap.size w w') : AuT w0 w' g b gs r N n m id u := by
  obtain ⟨M, und, pg, st, kd, rt, ow, ow', h1, h2⟩ := h.ex
  exact ⟨⟨M, und, pg, st, kd, rt, ow, ow', h1.kept hb, h2⟩, h.hn, below_then h.kp hb h.kp.size⟩
theorem au_check (h : Au w0 w g b gs r N n m u) : Calls Tryz.prog 10 #[.pointer (some ⟨g, 0, none⟩)] w fun e w' => e = .returned (.int .i64 0) ∧ Below w.heap.size w w' := by
  obtain ⟨M, und, pg, st, kd, rt, ow, h1, h2, h3, h4, h5⟩ := h.ex
  refine (check_vol h1 h4.ok h4.vol h.hn).mono ?_
  rintro e w' ⟨er, rfl, he, -, hb⟩
  rw [he.2 (h4.fine h.hn h5)]
  exact ⟨rfl, hb⟩
theorem aut_check {id : Nat} (h : AuT w0 w g b gs r N n m id u) : Calls Tryz.prog 10 #[.pointer (some ⟨g, 0, none⟩)] w fun e w' => e = .returned (.int .i64 40) ∧ Below w.heap.size w w' := by
  obtain ⟨M, und, pg, st, kd, rt, ow, ow', h1, h2, h3, h4, h5, h6, h7, h8, h9, h10⟩ := h.ex
  refine (check_vol h1 h4.ok h4.vol h.hn).mono ?_
  rintro e w' ⟨er, rfl, he, h40, hb⟩
  have := h4.extra h.hn h6.1 h6.2 h8 h10
  have e40 : er = 40 := by
    rcases h40 with h | h | h
    · exact absurd (he.1 h) this.1
    · exact h
    · exact absurd h this.2
  rw [e40]
  exact ⟨rfl, hb⟩
theorem au_make (hu : u) (h : Au w0 w g b gs r N n m u) (k : Int) : Calls Tryz.prog 19 #[.pointer (some ⟨g, 0, none⟩), .int .i64 k] w fun e w' => ∃ a er : Int, e = .returned (.tuple #[.int .i64 a, .int .i64 er]) ∧ AuM w0 w' g b gs r N n er := by
  obtain ⟨M, und, pg, st, kd, rt, ow, h1, h2, h3, h4, h5⟩ := h.ex
  have hl := h4.vol.lo
  have hn := h.hn
  have hM : M + 2 < maxLen := by unfold maxLen; omega
  have no : ∀ (w' : World) (er : Int), er ≠ 0 → Below w.heap.size w w' → AuM w0 w' g b gs r N n er := fun w' er hne hb =>
    ⟨⟨M, und, pg, h1.kept hb, st, kd, rt, ow, by unfold landed; rw [if_neg hne]; exact h3 hu, h5⟩, hn, below_then h.kp hb h.kp.size⟩
  have key : ∀ (kind : Nat) (e : Ending) (w' : World), kind < 256 → MakePost w w0.heap.size g b gs r N M n und pg kind e w' → ∃ a er : Int, e = .returned (.tuple #[.int .i64 a, .int .i64 er]) ∧ AuM w0 w' g b gs r N n er := by
    rintro kind e w' hk (⟨-, rfl, hb⟩ | ⟨j, -, -, -, rfl, hb⟩ | ⟨j, id, hj, hz, -, hid, hno, -, rfl, hs, hg⟩)
    · exact ⟨_, _, rfl, no w' _ (by decide) hb⟩
    · exact ⟨_, _, rfl, no w' _ (by decide) hb⟩
    · rw [h4.vol.own id hid] at hno
      have ho : ow id = none := by cases e : ow id with | none => rfl | some x => rw [e] at hno; cases hno
      have i2 : 2 ≤ id := by
        rcases (show id = 0 ∨ id = 1 ∨ 2 ≤ id by omega) with e | e | e
        · subst e; rw [h4.vol.z.1] at ho; cases ho
        · subst e; rw [h4.vol.z.2] at ho; cases ho
        · exact e
      have hf := h4.make h5 hj (by rw [← h4.vol.st j hj]; exact hz) i2 hid ho hk
      exact ⟨_, 0, rfl, ⟨_, und, _, hs, _, _, _, _, by unfold landed; rw [if_pos rfl]; exact hf.1, hf.2⟩, hn, h1.touch h.kp rfl hg (.inl rfl)⟩
  by_cases k1 : k = 1
  · subst k1; exact (make_1 h1 (by omega) hn h4.vol.d.k h4.vol.d.ok h4.vol.m hM).mono fun e w' hp => key 1 e w' (by decide) hp
  by_cases k2 : k = 2
  · subst k2; exact (make_2 h1 (by omega) hn h4.vol.d.k h4.vol.d.ok h4.vol.m hM).mono fun e w' hp => key 2 e w' (by decide) hp
  by_cases k3 : k = 3
  · subst k3; exact (make_3 h1 (by omega) hn h4.vol.d.k h4.vol.d.ok h4.vol.m hM).mono fun e w' hp => key 3 e w' (by decide) hp
  exact (make_bad k w k1 k2 k3).mono fun e w' ⟨a, c⟩ => ⟨_, _, a, no w' _ (by decide) (by rw [c]; exact Below.refl _ _)⟩
theorem au_take (h : Au w0 w g b gs r N n m u) : Calls Tryz.prog 14 #[.pointer (some ⟨g, 0, none⟩)] w fun e w' => (e = .returned (.tuple #[.int .i64 0, .int .i64 140]) ∧ Au w0 w' g b gs r N n m u) ∨ ∃ id : Nat, e = .returned (.tuple #[.int .i64 (id : Int), .int .i64 0]) ∧ AuT w0 w' g b gs r N n (m + 1) id u := by
  obtain ⟨M, und, pg, st, kd, rt, ow, h1, h2, h3, h4, h5⟩ := h.ex
  have hl := h4.vol.lo
  have hn := h.hn
  refine (take_good h1 (by omega) h4.vol.m (by unfold maxLen; omega)).mono ?_
  rintro e w' (⟨-, rfl, hb⟩ | ⟨id, hid, hno, -, rfl, hs, hg⟩)
  · exact .inl ⟨rfl, h.kept hb⟩
  · rw [h4.vol.own id hid] at hno
    have ho : ow id = none := by cases e : ow id with | none => rfl | some x => rw [e] at hno; cases hno
    have i2 : 2 ≤ id := by
      rcases (show id = 0 ∨ id = 1 ∨ 2 ≤ id by omega) with e | e | e
      · subst e; rw [h4.vol.z.1] at ho; cases ho
      · subst e; rw [h4.vol.z.2] at ho; cases ho
      · exact e
    have nid : ∀ i, i < 6 → st i ≠ 0 → rt i ≠ id := fun i hi si e => by
      have := (h4.root i hi si).2.2
      rw [e, ho] at this
      cases this
    exact .inr ⟨id, rfl, ⟨_, und, _, st, kd, rt, ow, _, hs, by omega, h3, h4.mark (h4.vol.take id i2 hid) (fun i hi => put_ne _ _ hi) nid, h5, ⟨i2, hid⟩, ho, by rw [put_at]; rfl, fun i hi => put_ne _ _ hi, nid⟩, hn, h1.touch h.kp rfl hg (.inl rfl)⟩
theorem aut_give {id : Nat} (h : AuT w0 w g b gs r N n m id u) : Calls Tryz.prog 15 #[.pointer (some ⟨g, 0, none⟩), .int .i64 (id : Int)] w fun e w' => e = .returned (.int .i64 0) ∧ (m ≤ 999 → Au w0 w' g b gs r N n (m + 1) u) := by
  obtain ⟨M, und, pg, st, kd, rt, ow, ow', h1, h2, h3, h4, h5, h6, h7, h8, h9, h10⟩ := h.ex
  have hl := h4.vol.lo
  have hn := h.hn
  refine (give_good h1 (by omega) h4.vol.m (by unfold maxLen; omega) (id : Int)).mono ?_
  rintro e w' (⟨hx, -, -⟩ | ⟨-, rfl, hs, hg⟩)
  · refine absurd ⟨by omega, by omega, ?_⟩ hx
    rw [Int.toNat_natCast, h4.vol.own id h6.2]
    exact h8
  · rw [Int.toNat_natCast] at hs
    have e : put ow' id none = ow := by
      funext i
      unfold put
      by_cases e : i = id
      · rw [if_pos e, e, h7]
      · rw [if_neg e]; exact h9 i e
    have hv := h4.vol.give id h6.1 h6.2
    rw [e] at hv
    exact ⟨rfl, fun hm => ⟨⟨_, und, _, st, kd, rt, ow, hs, by omega, h3, h4.mark hv (fun i hi => (h9 i hi).symm) h10, h5⟩, hn, h1.touch h.kp rfl hg (.inl rfl)⟩⟩
theorem au_drop (h : Au w0 w g b gs r N n m u) : Calls Tryz.prog 30 #[.pointer (some ⟨g, 0, none⟩)] w fun e w' => e = .returned (.tuple #[]) ∧ Below w0.heap.size w0 w' := by
  obtain ⟨M, und, pg, st, kd, rt, ow, h1, h2, h3, h4, h5⟩ := h.ex
  exact (sv_drop h1).mono fun e w' ⟨a, c, d⟩ => ⟨a, h1.touch h.kp rfl d (.inl rfl)⟩
end
/-- The store that is made is the first, its page the first that is free. -/
theorem make_at {w w' : World} {B g b gs r N M n kind : Nat} {und pg : Nat → Pg} {st : Nat → Int} {kd rt : Nat → Nat} {ow : Nat → Option Int} {e : Ending} (h : MakePost w B g b gs r N M n und pg kind e w') (hv : Vol pg n st kd rt ow) {j id : Nat} (hj : j < 6) (hs : st j = 0) (hq : ∀ q, q < j → st q ≠ 0) (hid : id < n) (ho : ow id = none) (ha : ∀ i, i < id → (ow i).isSome = true) :
    e = .returned (.tuple #[.int .i64 ((j : Int) + 1), .int .i64 0]) ∧ SV w' B g b gs r N (M + 3) und (upd (upd (upd pg 1 (mrk (pg 1) id true)) id (newPg kind j)) 0 (putC (pg 0) j ⟨1, stoD kind id⟩)) ∧ w.grownBy w' (some b) := by
  rcases h with ⟨h1, -, -⟩ | ⟨j', -, -, h1, -, -⟩ | ⟨j', id', hj', hz, hq', hid', hno, ha', he, hss, hg⟩
  · have := h1 j hj
    rw [hv.st j hj] at this
    exact absurd hs this
  · have := h1 id hid
    rw [hv.own id hid, ho] at this
    cases this
  · have ej : j' = j := by
      rcases Nat.lt_trichotomy j' j with h | h | h
      · rw [hv.st j' hj'] at hz; exact absurd hz (hq j' h)
      · exact h
      · have := hq' j h; rw [hv.st j hj] at this; exact absurd hs this
    have ei : id' = id := by
      rcases Nat.lt_trichotomy id' id with h | h | h
      · rw [hv.own id' hid', ha id' h] at hno; cases hno
      · exact h
      · have := ha' id h
        rw [hv.own id hid, ho] at this
        cases this
    subst ej ei
    exact ⟨he, hss, hg⟩
def v1 (n : Nat) : Nat → Pg := upd (upd (fun _ => Pg.zero) 0 dir0) 1 (mapN n)
def v2 (n : Nat) : Nat → Pg := upd (upd (upd (v1 n) 1 (mrk (v1 n 1) 2 true)) 2 (newPg 1 0)) 0 (putC (v1 n 0) 0 ⟨1, stoD 1 2⟩)
def v3 (n : Nat) : Nat → Pg := upd (upd (upd (v2 n) 1 (mrk (v2 n 1) 3 true)) 3 (newPg 2 1)) 0 (putC (v2 n 0) 1 ⟨1, stoD 2 3⟩)
def vst : Nat → Int := put (put (fun _ => 0) 0 1) 1 1
def vkd : Nat → Nat := put (put (fun _ => 0) 0 1) 1 2
def vrt : Nat → Nat := put (put (fun _ => 0) 0 2) 1 3
def vow : Nat → Option Int := put (put ow0 2 (some ((0 : Nat) + 1 : Int))) 3 (some ((1 : Nat) + 1 : Int))
theorem zero_ok : Pg.zero.ok := ⟨by decide, fun i hi => .inl ⟨rfl, rfl⟩⟩
theorem v1_flat (n N : Nat) (h1 : 4 ≤ n) (h2 : n ≤ 1024) : Flat (v1 n) N n (fun _ => 0) (fun _ => 0) (fun _ => 0) ow0 ∧ Whole n (fun _ => 0) (fun _ => 0) ow0 := flat_new _ N n h1 h2 fun _ => zero_ok
theorem v2_flat (n N : Nat) (h1 : 4 ≤ n) (h2 : n ≤ 1024) : Flat (v2 n) N n (put (fun _ => 0) 0 1) (put (fun _ => 0) 0 1) (put (fun _ => 0) 0 2) (put ow0 2 (some ((0 : Nat) + 1 : Int))) ∧ Whole n (put (fun _ => 0) 0 1) (put (fun _ => 0) 0 2) (put ow0 2 (some ((0 : Nat) + 1 : Int))) :=
  (v1_flat n N h1 h2).1.make (v1_flat n N h1 h2).2 (by omega) rfl (by omega) (by omega) rfl (by decide)
theorem v3_flat (n N : Nat) (h1 : 4 ≤ n) (h2 : n ≤ 1024) : Flat (v3 n) N n vst vkd vrt vow ∧ Whole n vst vrt vow :=
  (v2_flat n N h1 h2).1.make (v2_flat n N h1 h2).2 (by omega) rfl (by omega) (by omega) rfl (by decide)
set_option maxRecDepth 100000 in
set_option maxHeartbeats 8000000 in
theorem volume22 (n : Nat) (w : World) (h1 : 4 ≤ n) (h2 : n ≤ 1024) : Calls Tryz.prog 6 #[.int .i64 (n : Int)] w fun e w' => ∃ g b gs r, e = .returned (.tuple #[.pointer (some ⟨gs, 0, none⟩), .pointer (some ⟨g, 0, none⟩), .bool true]) ∧ SV w' w.heap.size g b gs r n 8 (fun _ => Pg.zero) (v3 n) ∧ Below w.heap.size w w' := by
  have CM := Lib.hid (memory_good n w (by omega) h2)
  have N1 := Lib.hid h1; have N2 := Lib.hid h2
  clear h1 h2
  go_enter Tryz.func6, Tryz.ntmps6
  go_wp2_with fail
  refine CM.out.mono ?_
  rintro e w1 ⟨gs, r, rfl, hS, hb⟩
  have S1 := Lib.hid hS; have B1 := Lib.hid hb
  clear hS hb CM
  have CN := Lib.hid (ss_new S1.out B1.out.size)
  go_wp2_with fail
  refine CN.out.mono ?_
  rintro e w2 ⟨g, b, rfl, hs, hb, hg1, hb1⟩
  have B2 := Lib.hid (below_then B1.out hb B1.out.size)
  have V2 := Lib.hid (show SV w2 w.heap.size g b gs r n 0 (fun _ => Pg.zero) (fun _ => Pg.zero) from by
    have := sv_made (und := fun _ => Pg.zero) hs (fun id hid => by
      rw [List.length_replicate] at hid
      rw [List.getD_eq_getElem?_getD, List.getElem?_replicate, if_pos hid]
      show pgB Pg.zero Pg.zero = true
      exact pgB_self _)
    rw [List.length_replicate] at this
    exact this)
  clear hs hb hg1 hb1 S1 B1 CN
  have CF := Lib.hid (format_good V2.out (by have := N1.out; omega) n N1.out N2.out (by decide))
  as_aux_lemma =>
    go_wp2_with fail
    refine CF.out.mono ?_
    rintro e w3 ⟨rfl, hs, hg⟩
    have V3 := Lib.hid (show SV w3 w.heap.size g b gs r n 2 (fun _ => Pg.zero) (v1 n) from hs)
    have B3 := Lib.hid (V2.out.touch B2.out rfl hg (.inl rfl))
    have F1 := Lib.hid (v1_flat n n N1.out N2.out)
    clear hs hg CF V2 B2
    have CK := Lib.hid (make_1 V3.out (by have := N1.out; omega) (Nat.le_refl n) F1.out.1.vol.d.k F1.out.1.vol.d.ok F1.out.1.vol.m (by decide))
    as_aux_lemma =>
      go_wp2_with fail
      refine CK.out.mono ?_
      rintro e w4 hp
      obtain ⟨rfl, hs, hg⟩ := make_at hp F1.out.1.vol (j := 0) (id := 2) (by omega) rfl (fun q hq => absurd hq (Nat.not_lt_zero q)) (by have := N1.out; omega) rfl (fun i hi => by unfold ow0; rw [if_pos hi]; rfl)
      have V4 := Lib.hid (show SV w4 w.heap.size g b gs r n 5 (fun _ => Pg.zero) (v2 n) from hs)
      have B4 := Lib.hid (V3.out.touch B3.out rfl hg (.inl rfl))
      have F2 := Lib.hid (v2_flat n n N1.out N2.out)
      clear hp hs hg CK V3 B3 F1
      have CK := Lib.hid (make_2 V4.out (by have := N1.out; omega) (Nat.le_refl n) F2.out.1.vol.d.k F2.out.1.vol.d.ok F2.out.1.vol.m (by decide))
      as_aux_lemma =>
        go_wp2_with fail
        refine CK.out.mono ?_
        rintro e w5 hp
        obtain ⟨rfl, hs, hg⟩ := make_at hp F2.out.1.vol (j := 1) (id := 3) (by omega) rfl (fun q hq => by
          obtain rfl : q = 0 := (by omega)
          decide) (by have := N1.out; omega) rfl (fun i hi => by
          unfold put ow0
          by_cases e : i = 2
          · rw [if_pos e]; rfl
          · rw [if_neg e, if_pos (by omega)]; rfl)
        have V5 := Lib.hid (show SV w5 w.heap.size g b gs r n 8 (fun _ => Pg.zero) (v3 n) from hs)
        have B5 := Lib.hid (V4.out.touch B4.out rfl hg (.inl rfl))
        clear hp hs hg CK V4 B4 F2
        go_wp2
        refine bodyPost_ret (v := .tuple #[.pointer (some ⟨gs, 0, none⟩), .pointer (some ⟨g, 0, none⟩), .bool true]) (by simp [results, Tryz.results6, go_sem]) rfl ?_
        exact ⟨g, b, gs, r, rfl, V5.out, B5.out⟩
set_option maxRecDepth 100000 in
set_option maxHeartbeats 8000000 in
theorem awake22 (w : World) : Calls Tryz.prog 5 #[] w fun e w' => e = .returned (.bool true) ∧ Below w.heap.size w w' := by
  have CV := volume22 16 w (by omega) (by omega)
  rw [show ((16 : Nat) : Int) = 16 from rfl] at CV
  have CV := Lib.hid CV
  go_enter Tryz.func5, Tryz.ntmps5
  go_wp2_with fail
  refine CV.out.mono ?_
  rintro e w1 ⟨g, b, gs, r, rfl, hs, hb⟩
  have A1 := Lib.hid (show Au w w1 g b gs r 16 16 8 False from ⟨⟨8, _, _, _, _, _, _, hs, by omega, fun h => h.elim, (v3_flat 16 16 (by omega) (by omega)).1, (v3_flat 16 16 (by omega) (by omega)).2⟩, by omega, hb⟩)
  have OWN := Lib.hid (show ∃ i, i < 16 ∧ (vow i).isSome = false from ⟨4, by omega, rfl⟩)
  have S1 := Lib.hid hs
  clear hs hb CV
  have CC := Lib.hid (au_check A1.out)
  go_wp2_with fail
  refine CC.out.mono ?_
  rintro e w2 ⟨rfl, hb⟩
  have A2 := Lib.hid (A1.out.kept hb)
  have S2 := Lib.hid (S1.out.kept hb)
  have B2 := Lib.hid (below_then A1.out.kp hb A1.out.kp.size)
  clear CC hb A1 S1
  have F3 := Lib.hid (v3_flat 16 16 (by omega) (by omega))
  have CT := Lib.hid (take_good S2.out (by omega) F3.out.1.vol.m (by decide))
  as_aux_lemma =>
    go_wp2_with fail
    refine CT.out.mono ?_
    rintro e w3 (⟨ha, -, -⟩ | ⟨id, hid, hno, -, rfl, hs, hg⟩)
    · exfalso
      have := ha 4 (by omega)
      rw [F3.out.1.vol.own 4 (by omega)] at this
      exact absurd this (by decide)
    · have T3 := Lib.hid (show AuT w w3 g b gs r 16 16 9 id False from by
        obtain ⟨h4, h5⟩ := F3.out
        rw [h4.vol.own id hid] at hno
        have ho : vow id = none := by cases e : vow id with | none => rfl | some x => rw [e] at hno; cases hno
        have i2 : 2 ≤ id := by
          rcases (show id = 0 ∨ id = 1 ∨ 2 ≤ id by omega) with e | e | e
          · subst e; rw [h4.vol.z.1] at ho; cases ho
          · subst e; rw [h4.vol.z.2] at ho; cases ho
          · exact e
        have nid : ∀ i, i < 6 → vst i ≠ 0 → vrt i ≠ id := fun i hi si e => by
          have := (h4.root i hi si).2.2
          rw [e, ho] at this
          cases this
        exact ⟨⟨_, _, _, _, _, _, vow, _, hs, by omega, fun h => h.elim, h4.mark (h4.vol.take id i2 hid) (fun i hi => put_ne _ _ hi) nid, h5, ⟨i2, hid⟩, ho, by rw [put_at]; rfl, fun i hi => put_ne _ _ hi, nid⟩, Nat.le_refl _, S2.out.touch B2.out rfl hg (.inl rfl)⟩)
      clear hid hno hs hg CT S2 A2 OWN F3
      have CK := Lib.hid (aut_check T3.out)
      as_aux_lemma =>
        go_wp2_with fail
        refine CK.out.mono ?_
        rintro e w4 ⟨rfl, hb⟩
        have B4 := Lib.hid (below_then T3.out.kp hb T3.out.kp.size)
        clear hb CK T3 B2
        have CN := Lib.hid (check_err (dir_nil w4) (by decide) (by decide) ⟨none, rfl⟩)
        as_aux_lemma =>
          go_wp2_with fail
          refine CN.out.mono ?_
          rintro e w5 ⟨rfl, hb⟩
          have B5 := Lib.hid (below_then B4.out hb B4.out.size)
          clear hb CN B4
          go_wp2
          go_ret
          exact ⟨rfl, B5.out⟩
end Go.Proofs.YtelbioooggnbiaaGreat
