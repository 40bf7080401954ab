/- DiskWhole: the four rows beside the device, and what they hold. -/
import Derived.Test.YtlbpbegnknpckaaDskRunsTwo
set_option linter.unusedVariables false
set_option linter.unusedSimpArgs false
namespace Go.Proofs.Ytlbpbegnknpckaa
open Go.RowKit

def a4 (f : Nat → Value) : Array Value := #[f 0, f 1, f 2, f 3]
theorem four {k : Nat} (h : k < 4) : k = 0 ∨ k = 1 ∨ k = 2 ∨ k = 3 := by omega
theorem a4_get (f : Nat → Value) (k : Nat) (h : k < 4) : (a4 f)[k]? = some (f k) := by rcases four h with rfl | rfl | rfl | rfl <;> rfl
def upd {α : Type} (f : Nat → α) (i : Nat) (x : α) : Nat → α := fun j => if j = i then x else f j
theorem upd_at {α : Type} (f : Nat → α) (i : Nat) (x : α) : upd f i x i = x := by simp [upd]
theorem upd_ne {α : Type} (f : Nat → α) {i j : Nat} (x : α) (h : j ≠ i) : upd f i x j = f j := by simp [upd, h]
theorem a4_set (f : Nat → Value) (i : Nat) (v : Value) (h : i < 4) : (a4 f).setIfInBounds i v = a4 (upd f i v) := by
  rcases four h with rfl | rfl | rfl | rfl <;> simp [a4, upd]

/-- Four rows of texts, held by an array, apart from one another. -/
structure Rws (w : World) (B g : Nat) (mv : Nat → Value) (M : Nat → List ByteArray) : Prop where
  arr : Bk w g 50 (a4 mv)
  row : ∀ i, i < 4 → w.ownsRow B 9 1 (mv i) (M i).length ((M i).map .string)
  apart : ∀ i j, i < 4 → j < 4 → i ≠ j → ∀ k, (mv i).ownBlock = some k → (mv j).ownBlock ≠ some k
section
variable {w w' w0 w1 : World} {B g : Nat} {mv : Nat → Value} {M : Nat → List ByteArray}
theorem Rws.of_same (h : Rws w B g mv M) (hg : w'.heap[g]? = w.heap[g]?) (hr : ∀ i, i < 4 → ∀ k, (mv i).ownBlock = some k → w'.heap[k]? = w.heap[k]?) : Rws w' B g mv M :=
  ⟨hg.trans h.arr, fun i hi => owns_of_block (h.row i hi) (hr i hi), h.apart⟩
theorem Rws.kept (h : Rws w B g mv M) (hb : Below w.heap.size w w') : Rws w' B g mv M :=
  h.of_same (hb.block g h.arr.lt) fun i hi k hk => hb.block k (owns_block (h.row i hi) hk).2.1
theorem Rws.put (h : Rws w B g mv M) {i : Nat} (hi : i < 4) {v : Value} {L : List ByteArray} (hg : Bk w' g 50 (a4 (upd mv i v))) (hv : w'.ownsRow B 9 1 v L.length (L.map .string))
    (hr : ∀ j, j < 4 → j ≠ i → ∀ k, (mv j).ownBlock = some k → w'.heap[k]? = w.heap[k]?) (hn : ∀ k, v.ownBlock = some k → (mv i).ownBlock = some k ∨ w.heap.size ≤ k) : Rws w' B g (upd mv i v) (upd M i L) := by
  have ha : ∀ j, j < 4 → j ≠ i → ∀ k, v.ownBlock = some k → (mv j).ownBlock ≠ some k := by
    intro j hj hne k hk hk2
    rcases hn k hk with h1 | h1
    · exact h.apart j i hj hi hne k hk2 h1
    · have := (owns_block (h.row j hj) hk2).2.1; omega
  refine ⟨hg, fun j hj => ?_, fun a b hA hB hne k hk hk2 => ?_⟩
  · by_cases e : j = i
    · subst e; rw [upd_at, upd_at]; exact hv
    · rw [upd_ne _ _ e, upd_ne _ _ e]; exact owns_of_block (h.row j hj) (hr j hj e)
  · by_cases ea : a = i
    · subst ea
      rw [upd_at] at hk
      rw [upd_ne _ _ (Ne.symm hne)] at hk2
      exact ha b hB (Ne.symm hne) k hk hk2
    · rw [upd_ne _ _ ea] at hk
      by_cases eb : b = i
      · subst eb
        rw [upd_at] at hk2
        exact ha a hA ea k hk2 hk
      · rw [upd_ne _ _ eb] at hk2
        exact h.apart a b hA hB hne k hk hk2

/-- The device, the four rows beside it, what was written. -/
structure Wh (w0 w : World) (B g : Nat) (I : Ids) (S : Dsk) (mv : Nat → Value) (M : Nat → List ByteArray) (k c : Nat) : Prop where
  d : Dk w B I S
  r : Rws w B g mv M
  dev : ∀ i, i < 4 → ∀ q, (mv i).ownBlock = some q → q ≠ I.f ∧ q ≠ I.n
  bel : Below w0.heap.size w0 w
  hB : w0.heap.size ≤ B
  bg : B ≤ g
  lv : Lv S 4 k
  most : ∀ i, i < 4 → (M i).length ≤ c
variable {I : Ids} {S T : Dsk} {k r : Nat}
theorem Wh.size (h : Wh w0 w B g I S mv M k r) : B ≤ w.heap.size := by have := h.d.bg; have := h.d.box.lt; omega
theorem Wh.kept (h : Wh w0 w B g I S mv M k r) (hb : Below w.heap.size w w1) : Wh w0 w1 B g I S mv M k r :=
  ⟨h.d.kept hb, h.r.kept hb, h.dev, below_then h.bel hb (Nat.le_trans h.hB h.size), h.hB, h.bg, h.lv, h.most⟩
theorem Wh.row_foot (h : Wh w0 w B g I S mv M k r) {i : Nat} (hi : i < 4) {q : Nat} (hq : (mv i).ownBlock = some q) : ¬ I.foot q := by
  obtain ⟨_, _, cur, hc⟩ := owns_block (h.r.row i hi) hq
  rintro (e | e | e | e)
  · subst e; exact hc.ne_ h.d.box (by decide) rfl
  · exact (h.dev i hi q hq).1 e
  · exact (h.dev i hi q hq).2 e
  · obtain ⟨_, _, cur2, hc2⟩ := owns_block h.d.pend e
    exact hc2.ne_ hc (by decide) rfl
theorem Wh.arr_foot (h : Wh w0 w B g I S mv M k r) : ¬ I.foot g := by
  rintro (e | e | e | e)
  · exact h.r.arr.ne_ h.d.box (by decide) e
  · exact h.d.firm.ne_bk h.r.arr (by decide) e.symm
  · exact h.d.now.ne_bk h.r.arr (by decide) e.symm
  · obtain ⟨_, _, cur2, hc2⟩ := owns_block h.d.pend e
    exact hc2.ne_ h.r.arr (by decide) rfl
theorem Wh.row_arr (h : Wh w0 w B g I S mv M k r) {i : Nat} (hi : i < 4) {q : Nat} (hq : (mv i).ownBlock = some q) : q ≠ g := by
  obtain ⟨_, _, cur, hc⟩ := owns_block (h.r.row i hi) hq
  exact hc.ne_ h.r.arr (by decide)
theorem Wh.dev_step (h : Wh w0 w B g I S mv M k r) {p : Value} {k' : Nat} (o : Out w w1 I.foot) (d' : Dk w1 B (I.with p) T) (lv' : Lv T 4 k') : Wh w0 w1 B g (I.with p) T mv M k' r :=
  ⟨d', h.r.of_same (o.block g h.r.arr.lt h.arr_foot) fun i hi q hq => o.block q (owns_block (h.r.row i hi) hq).2.1 (h.row_foot hi hq), h.dev,
    h.bel.trans ((o.below h.size (fun q hq => (h.d.foot_lt hq).1)).mono h.hB), h.hB, h.bg, lv', h.most⟩
theorem own_new (b n c q : Nat) (h : (Value.slice (some (⟨b, 0, none⟩ : Addr)) n c).ownBlock = some q) : q = b := by
  simp [Value.ownBlock] at h; exact h.symm
/-- A row of one text in the place of row i. -/
theorem Wh.fresh (h : Wh w0 w B g I S mv M k r) {i : Nat} (hi : i < 4) (s : ByteArray) (hr : 1 ≤ r) :
    Wh w0 ((w.alloc (.cells #[.string s] 9)).setCell ⟨g, i, none⟩ (.slice (some ⟨w.heap.size, 0, none⟩) 1 1)) B g I S (upd mv i (.slice (some ⟨w.heap.size, 0, none⟩) 1 1)) (upd M i [s]) k r := by
  have hb : Below w.heap.size w (w.alloc (.cells #[.string s] 9)) := (Below.refl _ _).alloc (Nat.le_refl _) _
  have h1 := h.kept hb
  have hnew : Bk (w.alloc (.cells #[.string s] 9)) w.heap.size 9 #[.string s] := Bk.new _ _ _
  have hgl := h.r.arr.lt
  have hfar := fun q (hq : q ≠ g) => Below.heap_setCell (w.alloc (.cells #[.string s] 9)) (⟨g, i, none⟩ : Addr) (.slice (some ⟨w.heap.size, 0, none⟩) 1 1) q hq
  have ha := h1.r.arr.set i (.slice (some ⟨w.heap.size, 0, none⟩) 1 1)
  rw [a4_set _ _ _ hi] at ha
  refine ⟨h1.d.of_same fun q hq => hfar q (fun e => h1.arr_foot (e ▸ hq)), h.r.put hi ha ?_ (fun j hj _ q hq => (hfar q (h1.row_arr hj hq)).trans (hb.block q (owns_block (h.r.row j hj) hq).2.1)) ?_, ?_, h1.bel.setCell (by have := h.hB; have := h.bg; show w0.heap.size ≤ g; omega) _, h.hB, h.bg, h.lv, ?_⟩
  · refine ⟨by simp, .inr ⟨w.heap.size, 1, #[.string s], rfl, h.size, (hfar _ (by omega)).trans hnew, Nat.le_refl _, by decide, rfl, rfl⟩⟩
  · intro q hq
    have := own_new _ _ _ _ hq; subst this
    exact .inr (Nat.le_refl _)
  · intro j hj q hq
    by_cases e : j = i
    · subst e; rw [upd_at] at hq
      have := own_new _ _ _ _ hq; subst this
      have := h.d.firm.lt; have := h.d.now.lt
      constructor <;> omega
    · rw [upd_ne _ _ e] at hq; exact h.dev j hj q hq
  · intro j hj
    by_cases e : j = i
    · subst e; rw [upd_at]; exact hr
    · rw [upd_ne _ _ e]; exact h.most j hj
/-- A text more in row i. -/
theorem Wh.grown (h : Wh w0 w B g I S mv M k r) {i : Nat} (hi : i < 4) (s : ByteArray) {w3 : World} {gp cap : Nat}
    (hown : w3.ownsRow B 9 1 (.slice (some ⟨gp, 0, none⟩) ((M i).length + 1) cap) ((M i).length + 1) ((M i).map .string ++ [.string s])) (hgrow : w.grownBy w3 (mv i).ownBlock) (hat : (mv i).ownBlock = some gp ∨ gp = w.heap.size) :
    Wh w0 (w3.setCell ⟨g, i, none⟩ (.slice (some ⟨gp, 0, none⟩) ((M i).length + 1) cap)) B g I S (upd mv i (.slice (some ⟨gp, 0, none⟩) ((M i).length + 1) cap)) (upd M i (M i ++ [s])) k (r + 1) := by
  have hgl := h.r.arr.lt
  have hgg : some g ≠ (mv i).ownBlock := fun e => h.row_arr hi e.symm rfl
  have hfar := fun q (hq : q ≠ g) => Below.heap_setCell w3 (⟨g, i, none⟩ : Addr) (.slice (some ⟨gp, 0, none⟩) ((M i).length + 1) cap) q hq
  have ha := (h.r.arr.grown hgrow hgg).set i (.slice (some ⟨gp, 0, none⟩) ((M i).length + 1) cap)
  rw [a4_set _ _ _ hi] at ha
  have hgpg : gp ≠ g := by
    rcases hat with e | e
    · exact h.row_arr hi e
    · omega
  refine ⟨h.d.of_same fun q hq => (hfar q (fun e => h.arr_foot (e ▸ hq))).trans (hgrow.block q (h.d.foot_lt hq).2 (fun e => h.row_foot hi e.symm hq)), h.r.put hi ha ?_ (fun j hj hne q hq => (hfar q (h.row_arr hj hq)).trans (hgrow.block q (owns_block (h.r.row j hj) hq).2.1 (fun e => h.r.apart j i hj hi hne q hq e.symm))) ?_, ?_, ?_, h.hB, h.bg, h.lv, ?_⟩
  · have e1 : (M i ++ [s]).length = (M i).length + 1 := by simp
    have e2 : (M i ++ [s]).map Value.string = (M i).map .string ++ [.string s] := by simp
    rw [e1, e2]
    exact owns_of_block hown fun q hq => hfar q (by have := own_new _ _ _ _ hq; subst this; exact hgpg)
  · intro q hq
    have := own_new _ _ _ _ hq; subst this
    rcases hat with e | e
    · exact .inl e
    · exact .inr (by omega)
  · intro j hj q hq
    by_cases e : j = i
    · subst e; rw [upd_at] at hq
      have := own_new _ _ _ _ hq; subst this
      rcases hat with e | e
      · exact h.dev j hj _ e
      · have := h.d.firm.lt; have := h.d.now.lt
        constructor <;> omega
    · rw [upd_ne _ _ e] at hq; exact h.dev j hj q hq
  · have b1 : Below w0.heap.size w0 w3 := h.bel.grown hgrow (by have := h.bel.size; exact this) (fun j hj => Nat.le_trans h.hB (owns_block (h.r.row i hi) hj).1)
    exact b1.setCell (by have := h.hB; have := h.bg; show w0.heap.size ≤ g; omega) _
  · intro j hj
    have := h.most j hj
    by_cases e : j = i
    · subst e; rw [upd_at]; simp; omega
    · rw [upd_ne _ _ e]; omega

/-! What the rows tell of the device. -/
def P1 (S : Dsk) (M : Nat → List ByteArray) : Prop := ∀ i, i < 4 → (M i = [] ∧ S.now.getD i ⟨#[]⟩ = Fr.zs 64) ∨ M i = [S.now.getD i ⟨#[]⟩]
def P2 (S : Dsk) (M : Nat → List ByteArray) (j : Nat) : Prop := ∀ i, i < 4 → (i < j → M i = [S.firm.getD i ⟨#[]⟩]) ∧ ((M i = [] ∧ S.firm.getD i ⟨#[]⟩ = Fr.zs 64) ∨ M i = [S.firm.getD i ⟨#[]⟩])
def P3 (S : Dsk) (M : Nat → List ByteArray) : Prop := (∀ i, i < 4 → S.firm.getD i ⟨#[]⟩ ∈ M i) ∧ ∀ p ∈ S.pend, p.2 ∈ M p.1
theorem P1.start : P1 (.start (blanks 4)) fun _ => [] := fun i hi => .inl ⟨rfl, by rcases four hi with rfl | rfl | rfl | rfl <;> rfl⟩
theorem Lv.nowlen {c : Nat} (h : Lv S c k) : S.now.length = c := by rw [h.now, apply_length, h.len]
theorem P1.wrote (h : P1 S M) (lv : Lv S 4 k) {i : Nat} (hi : i < 4) (d : ByteArray) : P1 (S.wrote i d) (upd M i [d]) := by
  intro j hj
  have hl := lv.nowlen
  show (_ ∧ (S.now.set i d).getD j ⟨#[]⟩ = _) ∨ _ = [(S.now.set i d).getD j ⟨#[]⟩]
  rw [set_get _ _ _ _ (by omega)]
  by_cases e : i = j
  · subst e; rw [upd_at, if_pos rfl]; exact .inr rfl
  · rw [upd_ne _ _ (Ne.symm e), if_neg e]; exact h j hj
theorem P1.synced (h : P1 S M) (lv : Lv S 4 k) : P2 S.synced M 0 := by
  intro i hi
  rw [lv.sync.2.2.1]
  exact ⟨fun h => absurd h (by omega), h i hi⟩
theorem P2.next (h : P2 S M k) (hk : k < 4) (he : M k ≠ []) : P2 S M (k + 1) := by
  intro i hi
  refine ⟨fun hlt => ?_, (h i hi).2⟩
  by_cases e : i = k
  · subst e
    rcases (h i hi).2 with h1 | h1
    · exact absurd h1.1 he
    · exact h1
  · exact (h i hi).1 (by omega)
theorem P2.fill (h : P2 S M k) (hk : k < 4) (he : M k = []) : P2 S (upd M k [Fr.zs 64]) (k + 1) := by
  intro i hi
  by_cases e : i = k
  · subst e
    rw [upd_at]
    have e2 : S.firm.getD i ⟨#[]⟩ = Fr.zs 64 := by
      rcases (h i hi).2 with h1 | h1
      · exact h1.2
      · rw [he] at h1; cases h1
    rw [e2]
    exact ⟨fun _ => rfl, .inr rfl⟩
  · rw [upd_ne _ _ e]
    exact ⟨fun hlt => (h i hi).1 (by omega), (h i hi).2⟩
theorem P2.done (h : P2 S M 4) (hp : S.pend = []) : P3 S M := ⟨fun i hi => by rw [(h i hi).1 hi]; simp, fun p hp2 => by rw [hp] at hp2; cases hp2⟩
theorem P3.wrote (h : P3 S M) (i : Nat) (d : ByteArray) : P3 (S.wrote i d) (upd M i (M i ++ [d])) := by
  have up : ∀ j x, x ∈ M j → x ∈ upd M i (M i ++ [d]) j := by
    intro j x hx
    by_cases e : j = i
    · subst e; rw [upd_at]; exact List.mem_append_left _ hx
    · rw [upd_ne _ _ e]; exact hx
  refine ⟨fun j hj => up j _ (h.1 j hj), fun p hp => ?_⟩
  have hp' : p ∈ S.pend ++ [(i, d)] := hp
  rcases List.mem_append.1 hp' with h1 | h1
  · exact up _ _ (h.2 p h1)
  · have : p = (i, d) := by simpa using h1
    subst this
    show d ∈ upd M i (M i ++ [d]) i
    rw [upd_at]; simp
theorem P3.kept (h : P3 S M) (lv : Lv S 4 k) (m : Nat) (kb : Nat → Bool) : ∀ q, q ≤ S.pend.length → ∀ i, i < 4 → (keepTo S.firm S.pend m kb q).getD i ⟨#[]⟩ ∈ M i
  | 0, _, i, hi => h.1 i hi
  | q + 1, hq, i, hi => by
    have ih := P3.kept h lv m kb q (by omega) i hi
    simp only [keepTo]
    split
    · rw [set_get _ _ _ _ (by rw [keepTo_length, lv.len]; exact hi)]
      split
      · rename_i e
        have hm : S.pend.getD q (0, ⟨#[]⟩) ∈ S.pend := by
          rw [List.getD_eq_getElem?_getD, List.getElem?_eq_getElem (by omega : q < S.pend.length)]
          exact List.getElem_mem _
        rw [← e]
        exact h.2 _ hm
      · exact ih
    · exact ih
theorem P3.crash (h : P3 S M) (lv : Lv S 4 k) (m : Nat) (kb : Nat → Bool) : ∀ i, i < 4 → (S.crash m kb).now.getD i ⟨#[]⟩ ∈ M i := fun i hi => P3.kept h lv m kb _ (Nat.le_refl _) i hi
theorem Lv.write_no {c : Nat} (h : Lv S c k) (i : Int) (d : ByteArray) (h64 : d.size ≠ 64) : S.write i d = (S, 1) := by
  unfold Dsk.write
  rw [if_neg (by rw [h.down]; simp), if_neg (by omega)]
theorem Wh.more {k' r' : Nat} (h : Wh w0 w B g I S mv M k r) (hk : k ≤ k') (hr : r ≤ r') : Wh w0 w B g I S mv M k' r' :=
  ⟨h.d, h.r, h.dev, h.bel, h.hB, h.bg, h.lv.more hk, fun i hi => Nat.le_trans (h.most i hi) hr⟩
theorem owns_val {base : Nat} {e : TypeId} {size : Nat} {v : Value} {n : Nat} {xs : List Value} (h : w.ownsRow base e size v n xs) : ∃ a c, v = .slice a n c := by
  rcases h.2 with ⟨e1, e2⟩ | ⟨gp, cap, cur, e1, _⟩
  · exact ⟨none, 0, by rw [e1, e2]⟩
  · exact ⟨_, _, e1⟩
theorem Rws.cells (h : Rws w B g mv M) {i : Nat} (hi : i < 4) (hn : 0 < (M i).length) :
    ∃ gp c, mv i = .slice (some ⟨gp, 0, none⟩) (M i).length c ∧ ∀ q, q < (M i).length → w.cell? ⟨gp, q, none⟩ = some (.string ((M i).getD q ⟨#[]⟩)) := by
  rcases (h.row i hi).2 with ⟨e1, e2⟩ | ⟨gp, cap, cur, e1, _, hb, hle, hm, hs, ht⟩
  · omega
  · have hb' : Bk w gp 9 cur := hb
    refine ⟨gp, cap, e1, fun q hq => ?_⟩
    rw [hb'.cell, ← firm_get hq, ← ht, List.getElem?_take_of_lt (by omega), Array.getElem?_toList]
theorem Wh.start {w2 : World} {J : Ids} (hd : Dk w2 B J (.start (blanks 4))) (hb : Below w0.heap.size w0 w2) (hB : w0.heap.size ≤ B) (h2 : B ≤ w2.heap.size) (hc : w1 = w2.alloc (.cells #[.slice none 0 0, .slice none 0 0, .slice none 0 0, .slice none 0 0] 50)) :
    Wh w0 w1 B w2.heap.size (J.with J.p) (.start (blanks 4)) (fun _ => .slice none 0 0) (fun _ => []) 0 1 := by
  subst hc
  refine ⟨hd.kept ((Below.refl _ _).alloc (Nat.le_refl _) _), ⟨Bk.new _ _ _, fun i hi => World.ownsRow_nil _ _ _ _, fun i j _ _ _ k hk => by simp [Value.ownBlock] at hk⟩, fun i _ q hq => by simp [Value.ownBlock] at hq, hb.alloc (Nat.le_trans hB h2) _, hB, h2, Lv.start 4 _ (by simp [blanks]), fun i _ => Nat.zero_le _⟩
end
end Go.Proofs.Ytlbpbegnknpckaa
