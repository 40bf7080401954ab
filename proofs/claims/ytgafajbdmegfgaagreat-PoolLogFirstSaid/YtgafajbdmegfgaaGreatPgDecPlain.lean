/- Pages back from bytes: what is read. -/
import Derived.Test.YtgafajbdmegfgaaGreatPgEnc
import Derived.Test.YtgafajbdmegfgaaGreatPgMem
import Derived.Test.YtgafajbdmegfgaaGreatOctRd2
set_option linter.unusedVariables false
set_option linter.unusedSimpArgs false
namespace Go.Proofs.YtgafajbdmegfgaaGreat
open Go.RowKit

def cellAt (s : ByteArray) (i : Nat) : ByteArray := s.extract (8 + 36 * i) (44 + 36 * i)
def Ce.of (x : ByteArray) : Ce := ⟨(Oct.sval (x.extract 0 1) : Nat), (x.extract 2 36).extract 0 (Oct.sval (x.extract 1 2))⟩
def Pg.of (s : ByteArray) : Pg := ⟨(Oct.sval (s.extract 0 1) : Nat), (Oct.sval (s.extract 1 2) : Nat), (Oct.sval (s.extract 2 4) : Nat), (Oct.sval (s.extract 4 8) : Nat), fun i => Ce.of (cellAt s i)⟩
def Good (s : ByteArray) : Prop := s.size = 224 ∧ (Pg.of s).ok ∧ (Pg.of s).bytes = s
instance (s : ByteArray) : Decidable (Good s) := by unfold Good; infer_instance
def Pg.dec (s : ByteArray) : Pg := if Good s then Pg.of s else Pg.zero
def decErr (s : ByteArray) : Int := if Good s then 0 else 40

theorem val_inj : ∀ (a b : List UInt8), a.length = b.length → Oct.val a = Oct.val b → a = b
  | [], [], _, _ => rfl
  | [], _ :: _, h, _ => by simp at h
  | _ :: _, [], h, _ => by simp at h
  | x :: a, y :: b, h, hv => by
    simp only [Oct.val] at hv
    have hx := x.toNat_lt
    have hy := y.toNat_lt
    have e1 : x.toNat = y.toNat := by omega
    have e2 : Oct.val a = Oct.val b := by omega
    rw [val_inj a b (by simpa using h) e2, UInt8.toNat_inj.1 e1]
theorem str_sval (t : ByteArray) (k : Nat) (h : t.size = k) : Oct.str (Oct.sval t) k = t := by
  subst h
  apply ByteArray.ext
  apply Array.ext'
  refine val_inj _ _ ?_ (Oct.sval_str _ _ (Oct.sval_lt t))
  have := Oct.str_size (Oct.sval t) t.size
  exact this
theorem ex_ex (s : ByteArray) (a b c d : Nat) (h : a + d ≤ b) : (s.extract a b).extract c d = s.extract (a + c) (a + d) := by
  rw [ByteArray.extract_extract, Nat.min_eq_left h]
theorem ex_app (s : ByteArray) (a b c : Nat) (h1 : a ≤ b) (h2 : b ≤ c) : s.extract a b ++ s.extract b c = s.extract a c := by
  rw [ByteArray.extract_append_extract, Nat.min_eq_left h1, Nat.max_eq_right h2]
theorem ex_size (s : ByteArray) (a b : Nat) (h : b ≤ s.size) : (s.extract a b).size = b - a := by
  rw [ByteArray.size_extract, Nat.min_eq_left h]
theorem ex_all (s : ByteArray) : s.extract 0 s.size = s := by simp
theorem app_inj {a b c d : ByteArray} (h : a ++ b = c ++ d) (hl : a.size = c.size) : a = c ∧ b = d := by
  have h1 := ByteArray.append_inj_left h hl
  subst h1
  exact ⟨rfl, (ByteArray.append_right_inj a).1 h⟩

theorem Ce.of_dsize (x : ByteArray) (hx : x.size = 36) : (Ce.of x).d.size = min (Oct.sval (x.extract 1 2)) 34 := by
  show ((x.extract 2 36).extract 0 _).size = _
  rw [ByteArray.size_extract, ex_size _ _ _ (by omega)]
  omega
theorem Ce.size36 (c : Ce) (h : c.d.size ≤ 34) : c.bytes.size = 36 := by
  unfold Ce.bytes
  simp only [ByteArray.size_append, Oct.str_size, Fr.zs_size]
  omega
theorem sval1_lt (x : ByteArray) (h : x.size = 1) : Oct.sval x < 256 := by have := Oct.sval_lt x; rw [h] at this; exact this
/-- What a cell's 36 bytes say, in full. -/
theorem Ce.of_back (x : ByteArray) (hx : x.size = 36) : (Ce.of x).bytes = x ↔ Oct.sval (x.extract 1 2) ≤ 34 ∧ (x.extract 2 36).extract (Oct.sval (x.extract 1 2)) 34 = Fr.zs (34 - Oct.sval (x.extract 1 2)) := by
  have hd := Ce.of_dsize x hx
  have s1 : (x.extract 0 1).size = 1 := by rw [ex_size _ _ _ (by omega)]
  have s2 : (x.extract 1 2).size = 1 := by rw [ex_size _ _ _ (by omega)]
  have s3 : (x.extract 2 36).size = 34 := by rw [ex_size _ _ _ (by omega)]
  have e0 : x = x.extract 0 1 ++ x.extract 1 2 ++ x.extract 2 36 := by
    rw [ex_app _ _ _ _ (by omega) (by omega), ex_app _ _ _ _ (by omega) (by omega), ← hx, ex_all]
  have e1 : (Ce.of x).bytes = x.extract 0 1 ++ Oct.str (Ce.of x).d.size 1 ++ (Ce.of x).d ++ Fr.zs (34 - (Ce.of x).d.size) := by
    unfold Ce.bytes
    rw [show (Ce.of x).st.toNat = Oct.sval (x.extract 0 1) from rfl, str_sval _ 1 s1]
  have hn := sval1_lt _ s2
  constructor
  · intro h
    have h2 : x.extract 0 1 ++ Oct.str (Ce.of x).d.size 1 ++ ((Ce.of x).d ++ Fr.zs (34 - (Ce.of x).d.size)) = x.extract 0 1 ++ x.extract 1 2 ++ x.extract 2 36 := by
      rw [← ByteArray.append_assoc, ← e1, ← e0, h]
    obtain ⟨h3, h4⟩ := app_inj h2 (by simp only [ByteArray.size_append, Oct.str_size, s1, s2])
    obtain ⟨_, h5⟩ := app_inj h3 rfl
    have h6 : Oct.sval (x.extract 1 2) = (Ce.of x).d.size := by rw [← h5, Oct.sval_str _ 1 (by rw [hd]; omega)]
    have h7 : Oct.sval (x.extract 1 2) ≤ 34 := by rw [h6, hd]; omega
    refine ⟨h7, ?_⟩
    rw [← h4]
    rw [← h6]
    have h8 : (Ce.of x).d.size = Oct.sval (x.extract 1 2) := h6.symm
    exact ByteArray.extract_append_eq_right h8.symm (by rw [h8, Fr.zs_size]; omega)
  · rintro ⟨h1, h2⟩
    have h3 : (Ce.of x).d.size = Oct.sval (x.extract 1 2) := by rw [hd]; omega
    have e5 : (Ce.of x).d ++ (x.extract 2 36).extract (Oct.sval (x.extract 1 2)) 34 = x.extract 2 36 := by
      have := ex_app (x.extract 2 36) 0 (Oct.sval (x.extract 1 2)) 34 (by omega) h1
      refine Eq.trans this ?_
      rw [← s3, ex_all]
    rw [e1, h3, ← h2, str_sval _ 1 s2, ByteArray.append_assoc, e5, ← e0]
theorem Pg.of_head (s : ByteArray) (hs : s.size = 224) : (Pg.of s).hbytes = s.extract 0 8 := by
  have s1 : (s.extract 0 1).size = 1 := by rw [ex_size _ _ _ (by omega)]
  have s2 : (s.extract 1 2).size = 1 := by rw [ex_size _ _ _ (by omega)]
  have s3 : (s.extract 2 4).size = 2 := by rw [ex_size _ _ _ (by omega)]
  have s4 : (s.extract 4 8).size = 4 := by rw [ex_size _ _ _ (by omega)]
  show Oct.str (Oct.sval (s.extract 0 1)) 1 ++ Oct.str (Oct.sval (s.extract 1 2)) 1 ++ Oct.str (Oct.sval (s.extract 2 4)) 2 ++ Oct.str (Oct.sval (s.extract 4 8)) 4 = _
  rw [str_sval _ 1 s1, str_sval _ 1 s2, str_sval _ 2 s3, str_sval _ 4 s4, ex_app _ _ _ _ (by omega) (by omega), ex_app _ _ _ _ (by omega) (by omega), ex_app _ _ _ _ (by omega) (by omega)]
theorem cellAt_size (s : ByteArray) (hs : s.size = 224) (i : Nat) (hi : i < 6) : (cellAt s i).size = 36 := by
  unfold cellAt; rw [ex_size _ _ _ (by omega)]; omega
theorem cellAt_next (s : ByteArray) (i : Nat) : s.extract 0 (8 + 36 * i) ++ cellAt s i = s.extract 0 (8 + 36 * (i + 1)) := by
  unfold cellAt; rw [ex_app _ _ _ _ (by omega) (by omega)]; congr 1; omega
theorem Pg.of_upTo (s : ByteArray) (hs : s.size = 224) (h : ∀ i, i < 6 → (Ce.of (cellAt s i)).bytes = cellAt s i) : ∀ j, j ≤ 6 → (Pg.of s).upTo j = s.extract 0 (8 + 36 * j)
  | 0, _ => Pg.of_head s hs
  | j + 1, hj => by
    show (Pg.of s).upTo j ++ (Ce.of (cellAt s j)).bytes = _
    rw [Pg.of_upTo s hs h j (by omega), h j (by omega), cellAt_next]
theorem Pg.of_usize (s : ByteArray) (hs : s.size = 224) : ∀ j, j ≤ 6 → ((Pg.of s).upTo j).size = 8 + 36 * j
  | 0, _ => by show (Pg.of s).hbytes.size = _; rw [Pg.of_head s hs, ex_size _ _ _ (by omega)]
  | j + 1, hj => by
    show ((Pg.of s).upTo j ++ (Ce.of (cellAt s j)).bytes).size = _
    rw [ByteArray.size_append, Pg.of_usize s hs j (by omega), Ce.size36 _ (by rw [Ce.of_dsize _ (cellAt_size s hs j (by omega))]; omega)]
    omega
/-- All cells in form: the bytes come back. -/
theorem Pg.of_back (s : ByteArray) (hs : s.size = 224) : (Pg.of s).bytes = s ↔ ∀ i, i < 6 → (Ce.of (cellAt s i)).bytes = cellAt s i := by
  constructor
  · intro h
    have key : ∀ k j, j + k = 6 → (Pg.of s).upTo j = s.extract 0 (8 + 36 * j) := by
      intro k
      induction k with
      | zero => intro j hj; obtain rfl : j = 6 := by omega
                show (Pg.of s).bytes = _
                rw [h]; show s = s.extract 0 224; rw [← hs, ex_all]
      | succ k ih =>
        intro j hj
        have h1 := ih (j + 1) (by omega)
        rw [← cellAt_next] at h1
        exact (app_inj (show (Pg.of s).upTo j ++ (Ce.of (cellAt s j)).bytes = _ from h1) (by rw [Pg.of_usize s hs j (by omega), ex_size _ _ _ (by omega)]; omega)).1
    intro i hi
    have h1 := key (5 - i) (i + 1) (by omega)
    rw [← cellAt_next] at h1
    exact (app_inj (show (Pg.of s).upTo i ++ (Ce.of (cellAt s i)).bytes = _ from h1) (by rw [Pg.of_usize s hs i (by omega), ex_size _ _ _ (by omega)]; omega)).2
  · intro h
    show (Pg.of s).upTo 6 = s
    rw [Pg.of_upTo s hs h 6 (by omega)]
    show s.extract 0 224 = s
    rw [← hs, ex_all]

/-! What was written is read. -/
theorem Ce.back_of (c : Ce) (h : c.ok) : Ce.of c.bytes = c := by
  have hk := (Ce.ok_iff c).1 h
  obtain ⟨st, d⟩ := c
  dsimp only at hk
  obtain ⟨n, rfl⟩ := Int.eq_ofNat_of_zero_le hk.1
  have hz := Ce.size36 ⟨n, d⟩ (by dsimp only; omega)
  have e : Ce.bytes ⟨n, d⟩ = Oct.str n 1 ++ (Oct.str d.size 1 ++ (d ++ Fr.zs (34 - d.size))) := by
    unfold Ce.bytes
    rw [ByteArray.append_assoc, ByteArray.append_assoc]
    rfl
  have e1 : (Ce.bytes ⟨n, d⟩).extract 0 1 = Oct.str n 1 := by rw [e]; exact ByteArray.extract_append_eq_left (Oct.str_size _ _).symm
  have e2 : (Ce.bytes ⟨n, d⟩).extract 1 36 = Oct.str d.size 1 ++ (d ++ Fr.zs (34 - d.size)) := by
    rw [e]; exact ByteArray.extract_append_eq_right (Oct.str_size _ _).symm (by simp only [ByteArray.size_append, Oct.str_size, Fr.zs_size]; omega)
  have e3 : (Ce.bytes ⟨n, d⟩).extract 1 2 = Oct.str d.size 1 := by
    have : (Ce.bytes ⟨n, d⟩).extract 1 2 = ((Ce.bytes ⟨n, d⟩).extract 1 36).extract 0 1 := by rw [ex_ex _ _ _ _ _ (by omega)]
    rw [this, e2]; exact ByteArray.extract_append_eq_left (Oct.str_size _ _).symm
  have e4 : (Ce.bytes ⟨n, d⟩).extract 2 36 = d ++ Fr.zs (34 - d.size) := by
    have : (Ce.bytes ⟨n, d⟩).extract 2 36 = ((Ce.bytes ⟨n, d⟩).extract 1 36).extract 1 35 := by rw [ex_ex _ _ _ _ _ (by omega)]
    rw [this, e2]; exact ByteArray.extract_append_eq_right (Oct.str_size _ _).symm (by simp only [ByteArray.size_append, Oct.str_size, Fr.zs_size]; omega)
  unfold Ce.of
  rw [e1, e3, e4, Oct.sval_str _ 1 (by omega), Oct.sval_str _ 1 (by omega)]
  rw [show (d ++ Fr.zs (34 - d.size)).extract 0 d.size = d from ByteArray.extract_append_eq_left rfl]
theorem Pg.cut (p : Pg) (h : ∀ i, i < 6 → (p.c i).ok) : ∀ j k, k ≤ j → j ≤ 6 → (p.upTo j).extract 0 (8 + 36 * k) = p.upTo k
  | 0, k, hk, _ => by
    obtain rfl : k = 0 := by omega
    have := Pg.upTo_size p h 0 (by omega)
    rw [← this, ex_all]
  | j + 1, k, hk, hj => by
    by_cases e : k = j + 1
    · subst e
      rw [← Pg.upTo_size p h (j + 1) hj, ex_all]
    · have ih := Pg.cut p h j k (by omega) (by omega)
      have hz := Pg.upTo_size p h j (by omega)
      show (p.upTo j ++ (p.c j).bytes).extract 0 (8 + 36 * k) = _
      have e1 : (p.upTo j ++ (p.c j).bytes).extract 0 (8 + 36 * k) = ((p.upTo j ++ (p.c j).bytes).extract 0 (8 + 36 * j)).extract 0 (8 + 36 * k) := by
        rw [ex_ex _ _ _ _ _ (by omega)]; simp
      rw [e1, show (p.upTo j ++ (p.c j).bytes).extract 0 (8 + 36 * j) = p.upTo j from ByteArray.extract_append_eq_left hz.symm, ih]
theorem Pg.cellAt_bytes (p : Pg) (h : ∀ i, i < 6 → (p.c i).ok) (i : Nat) (hi : i < 6) : cellAt p.bytes i = (p.c i).bytes := by
  have h1 := Pg.cut p h 6 (i + 1) (by omega) (by omega)
  have hz := Pg.upTo_size p h i (by omega)
  have h2 : cellAt p.bytes i = (p.bytes.extract 0 (8 + 36 * (i + 1))).extract (8 + 36 * i) (44 + 36 * i) := by
    rw [ex_ex _ _ _ _ _ (by omega)]; unfold cellAt; simp
  rw [h2, show p.bytes.extract 0 (8 + 36 * (i + 1)) = p.upTo i ++ (p.c i).bytes from h1]
  exact ByteArray.extract_append_eq_right hz.symm (by rw [Ce.bytes_size _ (h i hi), hz]; omega)
theorem Pg.of_bytes (p : Pg) (h : p.ok) : (Pg.of p.bytes).k = p.k ∧ (Pg.of p.bytes).l = p.l ∧ (Pg.of p.bytes).s = p.s ∧ (Pg.of p.bytes).n = p.n ∧ ∀ i, i < 6 → (Pg.of p.bytes).c i = p.c i := by
  obtain ⟨⟨k0, k1, l0, l1, s0, s1, n0, n1⟩, hc⟩ := h
  have h0 : p.bytes.extract 0 8 = p.hbytes := Pg.cut p hc 6 0 (by omega) (by omega)
  have ha : ∀ a b, b ≤ 8 → p.bytes.extract a b = p.hbytes.extract a b := fun a b hb => by rw [← h0, ex_ex _ _ _ _ _ (by omega)]; simp
  have f1 : p.hbytes.extract 0 1 = Oct.str p.k.toNat 1 := by
    unfold Pg.hbytes; rw [ByteArray.append_assoc, ByteArray.append_assoc]; exact ByteArray.extract_append_eq_left (Oct.str_size _ _).symm
  have f2 : p.hbytes.extract 1 2 = Oct.str p.l.toNat 1 := by
    have : p.hbytes.extract 1 2 = (p.hbytes.extract 0 2).extract 1 2 := by rw [ex_ex _ _ _ _ _ (by omega)]
    rw [this]
    unfold Pg.hbytes; rw [ByteArray.append_assoc]
    rw [show (Oct.str p.k.toNat 1 ++ Oct.str p.l.toNat 1 ++ (Oct.str p.s.toNat 2 ++ Oct.str p.n.toNat 4)).extract 0 2 = Oct.str p.k.toNat 1 ++ Oct.str p.l.toNat 1 from ByteArray.extract_append_eq_left (by simp only [ByteArray.size_append, Oct.str_size])]
    exact ByteArray.extract_append_eq_right (Oct.str_size _ _).symm (by simp only [Oct.str_size])
  have f3 : p.hbytes.extract 2 4 = Oct.str p.s.toNat 2 := by
    have : p.hbytes.extract 2 4 = (p.hbytes.extract 0 4).extract 2 4 := by rw [ex_ex _ _ _ _ _ (by omega)]
    rw [this]
    unfold Pg.hbytes
    rw [show (Oct.str p.k.toNat 1 ++ Oct.str p.l.toNat 1 ++ Oct.str p.s.toNat 2 ++ Oct.str p.n.toNat 4).extract 0 4 = Oct.str p.k.toNat 1 ++ Oct.str p.l.toNat 1 ++ Oct.str p.s.toNat 2 from ByteArray.extract_append_eq_left (by simp only [ByteArray.size_append, Oct.str_size])]
    exact ByteArray.extract_append_eq_right (by simp only [ByteArray.size_append, Oct.str_size]) (by simp only [ByteArray.size_append, Oct.str_size])
  have f4 : p.hbytes.extract 4 8 = Oct.str p.n.toNat 4 := by
    unfold Pg.hbytes
    exact ByteArray.extract_append_eq_right (by simp only [ByteArray.size_append, Oct.str_size]) (by simp only [ByteArray.size_append, Oct.str_size])
  refine ⟨?_, ?_, ?_, ?_, fun i hi => ?_⟩
  · show ((Oct.sval (p.bytes.extract 0 1) : Nat) : Int) = _
    rw [ha _ _ (by omega), f1, Oct.sval_str _ 1 (by omega)]; omega
  · show ((Oct.sval (p.bytes.extract 1 2) : Nat) : Int) = _
    rw [ha _ _ (by omega), f2, Oct.sval_str _ 1 (by omega)]; omega
  · show ((Oct.sval (p.bytes.extract 2 4) : Nat) : Int) = _
    rw [ha _ _ (by omega), f3, Oct.sval_str _ 2 (by omega)]; omega
  · show ((Oct.sval (p.bytes.extract 4 8) : Nat) : Int) = _
    rw [ha _ _ (by omega), f4, Oct.sval_str _ 4 (by omega)]; omega
  · show Ce.of (cellAt p.bytes i) = _
    rw [Pg.cellAt_bytes p hc i hi, Ce.back_of _ (hc i hi)]
theorem Pg.ok_same {p q : Pg} (h : p.k = q.k ∧ p.l = q.l ∧ p.s = q.s ∧ p.n = q.n ∧ ∀ i, i < 6 → p.c i = q.c i) (hp : p.ok) : q.ok := by
  obtain ⟨h1, h2, h3, h4, h5⟩ := h
  obtain ⟨hh, hc⟩ := hp
  refine ⟨?_, fun i hi => h5 i hi ▸ hc i hi⟩
  unfold Pg.head at hh ⊢
  rw [← h1, ← h2, ← h3, ← h4]; exact hh
theorem Pg.upTo_same {p q : Pg} (h : p.k = q.k ∧ p.l = q.l ∧ p.s = q.s ∧ p.n = q.n ∧ ∀ i, i < 6 → p.c i = q.c i) : ∀ j, j ≤ 6 → p.upTo j = q.upTo j
  | 0, _ => by
    obtain ⟨h1, h2, h3, h4, h5⟩ := h
    show p.hbytes = q.hbytes
    unfold Pg.hbytes
    rw [h1, h2, h3, h4]
  | j + 1, hj => by
    show p.upTo j ++ (p.c j).bytes = q.upTo j ++ (q.c j).bytes
    rw [Pg.upTo_same h j (by omega), h.2.2.2.2 j (by omega)]
theorem bytes_size (p : Pg) (h : p.ok) : p.bytes.size = 224 := Pg.upTo_size p h.2 6 (by omega)
/-- What is written may be read, and is what it was. -/
theorem good_bytes (p : Pg) (h : p.ok) : Good p.bytes ∧ (Pg.of p.bytes).cs = p.cs := by
  have e := Pg.of_bytes p h
  refine ⟨⟨bytes_size p h, Pg.ok_same ⟨e.1.symm, e.2.1.symm, e.2.2.1.symm, e.2.2.2.1.symm, fun i hi => (e.2.2.2.2 i hi).symm⟩ h, ?_⟩, Pg.cs_eq e⟩
  exact Pg.upTo_same e 6 (by omega)
theorem good_cells (s : ByteArray) (hs : s.size = 224) : Good s ↔ (∀ i, i < 6 → Oct.sval ((cellAt s i).extract 1 2) ≤ 34 ∧ ((cellAt s i).extract 2 36).extract (Oct.sval ((cellAt s i).extract 1 2)) 34 = Fr.zs (34 - Oct.sval ((cellAt s i).extract 1 2))) ∧ (Pg.of s).ok := by
  unfold Good
  rw [Pg.of_back s hs]
  constructor
  · rintro ⟨_, h2, h3⟩
    exact ⟨fun i hi => (Ce.of_back _ (cellAt_size s hs i hi)).1 (h3 i hi), h2⟩
  · rintro ⟨h1, h2⟩
    exact ⟨hs, h2, fun i hi => (Ce.of_back _ (cellAt_size s hs i hi)).2 (h1 i hi)⟩
end Go.Proofs.YtgafajbdmegfgaaGreat
