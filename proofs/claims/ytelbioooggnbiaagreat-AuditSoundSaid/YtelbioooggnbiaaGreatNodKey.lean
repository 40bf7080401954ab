/- Cells of nodes, plain: what a cell says. The walks of package node: Key, keyOf; of the document's own: Says. -/
import Derived.Test.YtelbioooggnbiaaGreatOctRd2
import Derived.Test.YtelbioooggnbiaaGreatPgPlain
import Derived.Deep.QuietTactic
import Derived.BigQuiet
set_option linter.unusedVariables false
set_option linter.unusedSimpArgs false
namespace Go.Proofs.YtelbioooggnbiaaGreat
open Go.RowKit

theorem ex_size5 (s : ByteArray) (a b : Nat) (h : b ≤ s.size) : (s.extract a b).size = b - a := by simp; omega
theorem ex_ex5 (s : ByteArray) (a b c d : Nat) (h : a + d ≤ b) : (s.extract a b).extract c d = s.extract (a + c) (a + d) := by
  rw [ByteArray.extract_extract]
  congr 1
  omega
theorem ba_empty_iff (d : ByteArray) : d = ⟨#[]⟩ ↔ d.size = 0 := by
  constructor
  · intro h; rw [h]; rfl
  · intro h; exact ByteArray.ext (Array.eq_empty_of_size_eq_zero h)

theorem below_grown {B g : Nat} {a b c : World} (h : Below B a b) (k : b.grownBy c (some g)) (hg : B ≤ g) (hB : B ≤ b.heap.size) : Below B a c :=
  ⟨k.os.trans h.os, k.tape.trans h.tape, k.output.trans h.output, Nat.le_trans h.size k.size, fun i hi => (k.block i (by omega) (by simp; omega)).trans (h.block i hi)⟩

/-- The first byte. -/
def n1 (d : ByteArray) : Nat := Oct.sval (d.extract 0 1)
theorem n1_get (d : ByteArray) (h : 0 < d.size) : (d[0]).toNat = n1 d := by
  have h1 : (d.extract 0 1).size = 1 := by rw [ex_size5 _ _ _ (by omega)]
  have h2 : (d.extract 0 1)[0] = d[0] := by rw [ByteArray.getElem_extract]
  have h3 := Oct.valFrom_pred (d.extract 0 1) 0 (by omega)
  rw [Oct.valFrom_zero] at h3
  have h4 : Oct.valFrom (d.extract 0 1) (0 + 1) = 0 := by have := Oct.valFrom_size (d.extract 0 1); rw [h1] at this; exact this
  rw [h4, h2] at h3
  unfold n1; omega
theorem n1_lt (d : ByteArray) : n1 d < 256 := by
  unfold n1
  have h := Oct.sval_lt (d.extract 0 1)
  have h2 : (d.extract 0 1).size ≤ 1 := by rw [ByteArray.size_extract]; omega
  have h3 : 256 ^ (d.extract 0 1).size ≤ 256 ^ 1 := Nat.pow_le_pow_right (by omega) h2
  omega
/-- Does it hold a text ahead? -/
def Tx (d : ByteArray) : Prop := n1 d + 1 ≤ d.size
instance (d : ByteArray) : Decidable (Tx d) := by unfold Tx; infer_instance
def tkey (d : ByteArray) : ByteArray := d.extract 1 (1 + n1 d)
def trest (d : ByteArray) : ByteArray := d.extract (1 + n1 d) d.size
theorem tkey_size {d : ByteArray} (h : Tx d) : (tkey d).size = n1 d := by
  unfold Tx at h; unfold tkey; rw [ex_size5 _ _ _ (by omega)]; omega
theorem trest_size (d : ByteArray) : (trest d).size = d.size - (1 + n1 d) := by unfold trest; rw [ex_size5 _ _ _ (Nat.le_refl _)]
theorem rnum_some (d : ByteArray) (h : 0 < d.size) : Oct.rnum (some d) 1 = (n1 d, some (d.extract 1 d.size)) := by
  have hr : Oct.rbytes (some d) 1 = (d.extract 0 1, some (d.extract 1 d.size)) := by
    simp only [Oct.rbytes]
    rw [if_neg (by omega)]
    rfl
  simp only [Oct.rnum]
  rw [if_neg (by omega), hr]
  simp only [Oct.nval]
  rw [if_pos (by rw [ex_size5 _ _ _ (by omega)]; omega)]
  rfl
theorem rtext_yes (d : ByteArray) (h : Tx d) : Oct.rtext (some d) = (tkey d, some (trest d)) := by
  have h0 : 0 < d.size := by unfold Tx at h; omega
  have hz : (d.extract 1 d.size).size = d.size - 1 := ex_size5 _ _ _ (Nat.le_refl _)
  unfold Oct.rtext
  rw [rnum_some d h0]
  unfold Tx at h
  simp only [Oct.rbytes]
  rw [if_neg (by rw [hz]; omega), hz]
  simp only [Int.toNat_natCast]
  rw [ex_ex5 _ _ _ _ _ (by omega), ex_ex5 _ _ _ _ _ (by omega)]
  unfold tkey trest
  rw [show 1 + (d.size - 1) = d.size by omega]
theorem rtext_no (d : ByteArray) (h : ¬ Tx d) : Oct.rtext (some d) = (⟨#[]⟩, none) := by
  unfold Tx at h
  by_cases h0 : 0 < d.size
  · have hz : (d.extract 1 d.size).size = d.size - 1 := ex_size5 _ _ _ (Nat.le_refl _)
    unfold Oct.rtext
    rw [rnum_some d h0]
    simp only [Oct.rbytes]
    rw [if_pos (by rw [hz]; omega)]
  · obtain rfl := (ba_empty_iff d).2 (by omega)
    rfl
/-- Does it say a key? -/
def Ce.says (c : Ce) : Prop := c.st ≠ 0 ∧ Tx c.d ∧ n1 c.d ≤ 8
instance (c : Ce) : Decidable c.says := by unfold Ce.says; infer_instance
def Ce.key (c : Ce) : ByteArray := if c.says then tkey c.d else ⟨#[]⟩
def Ce.rst (c : Ce) : ByteArray := if c.says then trest c.d else ⟨#[]⟩
theorem Ce.key_yes {c : Ce} (h : c.says) : c.key = tkey c.d := if_pos h
theorem Ce.rst_yes {c : Ce} (h : c.says) : c.rst = trest c.d := if_pos h
theorem Ce.key_no {c : Ce} (h : ¬ c.says) : c.key = ⟨#[]⟩ := if_neg h
theorem Ce.rst_no {c : Ce} (h : ¬ c.says) : c.rst = ⟨#[]⟩ := if_neg h
theorem Ce.key_size (c : Ce) : c.key.size ≤ 8 := by
  by_cases h : c.says
  · rw [Ce.key_yes h, tkey_size h.2.1]; exact h.2.2
  · rw [Ce.key_no h]; exact Nat.zero_le _
theorem Ce.rst_size (c : Ce) : c.rst.size ≤ c.d.size := by
  by_cases h : c.says
  · rw [Ce.rst_yes h, trest_size]; omega
  · rw [Ce.rst_no h]; exact Nat.zero_le _
/-- Its child, or 0. -/
def Ce.child (c : Ce) : Nat := if c.says ∧ c.rst.size = 4 ∧ 1 ≤ Oct.sval c.rst ∧ Oct.sval c.rst < 1024 then Oct.sval c.rst else 0
/-- A cell's bytes. -/
def dat (key rest : ByteArray) : ByteArray := Oct.text key ++ rest
def tdat (key rest : ByteArray) : ByteArray := Oct.text key ++ rest
end Go.Proofs.YtelbioooggnbiaaGreat
namespace Go.Proofs.YtelbioooggnbiaaGreat
open Go.RowKit

theorem rdst_below {w w' : World} {B g : Nat} {st : Oct.Rs} (h : RdSt w g st) (hb : Below B w w') (hg : g < B) : RdSt w' g st := RdAt.below h hb hg
set_option maxHeartbeats 1000000 in
theorem key_any (c : Ce) (w : World) (hs : c.d.size ≤ maxLen) :
    Calls Tryz.prog 83 #[c.v] w fun e w' => e = .returned (.tuple #[.string c.key, .string c.rst, .bool (decide c.says)]) ∧ Below w.heap.size w w' := by
  obtain ⟨st, d⟩ := c
  dsimp only at hs
  have cr := fun w => rd_read d w
  have ct := fun g w (h : RdSt w g (some d)) => rd_text g (some d) w h hs
  have CR := Lib.hid cr; have CT := Lib.hid ct
  clear cr ct
  have hbk : Bk (w.alloc (.cells #[.int .i64 st, .string d] 35)) w.heap.size 35 #[.int .i64 st, .string d] := Bk.new _ _ _
  have HBK := Lib.hid hbk; clear hbk
  have HS := Lib.hid hs; clear hs
  unfold Ce.v
  dsimp only
  generalize hK : Ce.key ⟨st, d⟩ = K
  generalize hR : Ce.rst ⟨st, d⟩ = R
  generalize hO : decide (Ce.says ⟨st, d⟩) = O
  have HK := Lib.hid hK; have HR := Lib.hid hR; have HO := Lib.hid hO
  clear hK hR hO
  go_enter Tryz.func83, Tryz.ntmps83
  go_wp2_with fail
  refine (CR.out _).mono ?_
  rintro e w2 ⟨rfl, hr2, hb2, hz2⟩
  have hz : w.heap.size + 1 < w2.heap.size := by simpa using hz2
  have K2 := Lib.hid (HBK.out.kept hb2)
  have B2 := Lib.hid (below_then ((Below.refl _ _).alloc (Nat.le_refl _) (.cells #[.int .i64 st, .string d] 35)) hb2 (by simp))
  rw [World.size_alloc] at hr2
  have R2 := Lib.hid hr2
  clear hb2 hr2 HBK CR hz2
  go_wp2_with fail
  refine (CT.out _ _ R2.out).mono ?_
  rintro e w3 ⟨rfl, hr3, hg3⟩
  have K3 := Lib.hid (K2.out.grown hg3 (by simp))
  have B3 := Lib.hid (below_grown B2.out hg3 (by omega) (by omega))
  have hz3 : w.heap.size + 1 < w3.heap.size := Nat.lt_of_lt_of_le hz hg3.size
  have c0 := K3.out.cell 0
  simp only [List.getElem?_toArray, List.getElem?_cons_zero] at c0
  clear hg3 K2 B2 R2 CT hz
  by_cases h0 : st = 0
  · have hn : ¬ Ce.says ⟨st, d⟩ := fun h => h.1 h0
    have hf : Hid (K = ⟨#[]⟩ ∧ R = ⟨#[]⟩ ∧ O = false) := Lib.hid ⟨by rw [← HK.out, Ce.key_no hn], by rw [← HR.out, Ce.rst_no hn], by rw [← HO.out, decide_eq_false hn]⟩
    subst h0
    clear HK HR HO hn hr3
    generalize Oct.rtext (some d) = p
    go_wp2
    go_ret3
    exact ⟨by rw [hf.out.1, hf.out.2.1, hf.out.2.2]; rfl, B3.out⟩
  · have h0' : (st == 0) = false := by simp [h0]
    by_cases ht : Tx d
    · rw [rtext_yes d ht] at hr3 ⊢
      dsimp only at hr3 ⊢
      have hks := tkey_size ht
      have R3 := Lib.hid hr3
      have cb : ∀ (wx : World), RdSt wx (w.heap.size + 1) (some (trest d)) → Calls Tryz.prog 91 #[.pointer (some ⟨w.heap.size + 1, 0, none⟩)] wx fun e w' => e = .returned (.bool false) ∧ wx = w' := fun (wx : World) h => rd_isbad (w.heap.size + 1) (some (trest d)) wx h
      have cl : ∀ (wx : World), RdSt wx (w.heap.size + 1) (some (trest d)) → Calls Tryz.prog 110 #[.pointer (some ⟨w.heap.size + 1, 0, none⟩)] wx fun e w' => e = .returned (.int .i64 ((trest d).size : Nat)) ∧ wx = w' := fun (wx : World) h => rd_left (w.heap.size + 1) (some (trest d)) wx h
      have CB := Lib.hid cb; have CL := Lib.hid cl
      clear cb cl
      have CY := Lib.hid (fun (wx : World) (h : RdSt wx (w.heap.size + 1) (some (trest d))) => rd_bytes (w.heap.size + 1) ((trest d).size : Nat) (some (trest d)) wx h (by show (trest d).size ≤ maxLen; rw [trest_size]; have := HS.out; omega))
      clear hr3
      by_cases h8 : n1 d ≤ 8
      · have hy : Ce.says ⟨st, d⟩ := ⟨h0, ht, h8⟩
        have hf : Hid (K = tkey d ∧ R = trest d ∧ O = true) := Lib.hid ⟨by rw [← HK.out, Ce.key_yes hy], by rw [← HR.out, Ce.rst_yes hy], by rw [← HO.out, decide_eq_true hy]⟩
        have hk8 : (tkey d).size ≤ 8 := by rw [hks]; exact h8
        have hk8' : ¬ (8 < (tkey d).size) := by omega
        have hall : Oct.rbytes (some (trest d)) ((trest d).size : Nat) = (trest d, some ⟨#[]⟩) := by
          simp only [Oct.rbytes]
          rw [if_neg (by omega)]
          simp
          rfl
        have HA := Lib.hid hall
        clear HK HR HO hy hks hall h8 ht h0
        generalize tkey d = tk at *
        generalize trest d = tr at *
        go_wp2_with fail
        refine (CB.out _ R3.out).mono ?_
        rintro e w4 ⟨rfl, rfl⟩
        clear CB K3 c0
        have B3b := B3.out.size
        clear hz3 
        go_wp2_with fail
        refine (CL.out _ R3.out).mono ?_
        rintro e w4 ⟨rfl, rfl⟩
        go_wp2_with fail
        have cy := CY.out _ R3.out
        rw [HA.out] at cy
        dsimp only at cy
        refine cy.mono ?_
        rintro e w4 ⟨rfl, _, hg4⟩
        have B4 := Lib.hid (below_grown B3.out hg4 (by omega) B3.out.size)
        clear cy hg4 CY
        go_wp2
        go_ret3
        exact ⟨by rw [hf.out.1, hf.out.2.1, hf.out.2.2]; rfl, B4.out⟩
      · have hn : ¬ Ce.says ⟨st, d⟩ := fun h => h8 h.2.2
        have hf : Hid (K = ⟨#[]⟩ ∧ R = ⟨#[]⟩ ∧ O = false) := Lib.hid ⟨by rw [← HK.out, Ce.key_no hn], by rw [← HR.out, Ce.rst_no hn], by rw [← HO.out, decide_eq_false hn]⟩
        have hk8 : 8 < (tkey d).size := by rw [hks]; omega
        clear HK HR HO hn hks
        generalize tkey d = tk at *
        go_wp2_with fail
        refine (CB.out _ R3.out).mono ?_
        rintro e w4 ⟨rfl, rfl⟩
        go_wp2
        go_ret3
        exact ⟨by rw [hf.out.1, hf.out.2.1, hf.out.2.2]; rfl, B3.out⟩
    · rw [rtext_no d ht] at hr3 ⊢
      dsimp only at hr3 ⊢
      have R3 := Lib.hid hr3
      have cb : ∀ (wx : World), RdSt wx (w.heap.size + 1) none → Calls Tryz.prog 91 #[.pointer (some ⟨w.heap.size + 1, 0, none⟩)] wx fun e w' => e = .returned (.bool true) ∧ wx = w' := fun (wx : World) h => rd_isbad (w.heap.size + 1) none wx h
      have CB := Lib.hid cb
      clear cb
      have hn : ¬ Ce.says ⟨st, d⟩ := fun h => ht h.2.1
      have hf : Hid (K = ⟨#[]⟩ ∧ R = ⟨#[]⟩ ∧ O = false) := Lib.hid ⟨by rw [← HK.out, Ce.key_no hn], by rw [← HR.out, Ce.rst_no hn], by rw [← HO.out, decide_eq_false hn]⟩
      clear HK HR HO hn hr3
      go_wp2_with fail
      refine (CB.out _ R3.out).mono ?_
      rintro e w4 ⟨rfl, rfl⟩
      go_wp2
      go_ret3
      exact ⟨by rw [hf.out.1, hf.out.2.1, hf.out.2.2]; rfl, B3.out⟩
theorem keyof_any (c : Ce) (w : World) (hs : c.d.size ≤ maxLen) :
    Calls Tryz.prog 108 #[c.v] w fun e w' => e = .returned (.string c.key) ∧ Below w.heap.size w w' := by
  have ck := fun w => key_any c w hs
  unfold Ce.v at *
  have CK := Lib.hid ck
  clear ck hs
  generalize Ce.key c = K at *
  generalize Ce.rst c = R at *
  generalize decide (Ce.says c) = O at *
  go_enter Tryz.func108, Tryz.ntmps108
  go_wp2_with fail
  refine (CK.out _).mono ?_
  rintro e w2 ⟨rfl, hb2⟩
  have B2 := Lib.hid (below_then ((Below.refl _ _).alloc (Nat.le_refl _) (.cells #[.int .i64 c.st, .string c.d] 35)) hb2 (by simp))
  clear hb2
  go_wp2
  go_ret
  exact ⟨rfl, B2.out⟩
end Go.Proofs.YtelbioooggnbiaaGreat
