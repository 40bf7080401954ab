/- The document's own Needs, the kinds that ask for items: one walk, cut behind the switch. -/
import Derived.Test.YtokghbppdmlfkaaDoorPlnRTail
import Derived.Deep.RegionLaw
import Derived.Deep.AppendLies
import Derived.Deep.DeepCutAuto
import Derived.Deep.CutBlock
set_option linter.unusedVariables false
set_option linter.unusedSimpArgs false
namespace Go.Proofs.YtokghbppdmlfkaaDoor
open Go.RowKit

theorem own_mono {w : World} {B B' : Nat} {e : TypeId} {size : Nat} {v : Value} {n : Nat} {xs : List Value} (h : w.ownsRow B e size v n xs) (hB : B' ≤ B) : w.ownsRow B' e size v n xs := by
  refine ⟨h.1, ?_⟩
  rcases h.2 with h0 | ⟨g, cap, cur, hv, hg, r⟩
  · exact .inl h0
  · exact .inr ⟨g, cap, cur, hv, Nat.le_trans hB hg, r⟩
/-- A block, while a row of another type grows. -/
theorem bk_grown {w w' : World} {B : Nat} {e e' : TypeId} {size n : Nat} {v : Value} {xs : List Value} {g : Nat} {cs : Array Value} (h : Bk w g e cs) (ho : w.ownsRow B e' size v n xs) (hg : w.grownBy w' v.ownBlock) (hne : e ≠ e') : Bk w' g e cs :=
  h.grown hg (fun h0 => by obtain ⟨_, cur, hc⟩ := own_bk ho _ h0.symm; exact Bk.ne_ h hc hne rfl)
theorem below_own {w w' u : World} {B : Nat} {e : TypeId} {size n : Nat} {v : Value} {xs : List Value} (hb : Below B u w) (ho : w.ownsRow B e size v n xs) (hg : w.grownBy w' v.ownBlock) (hB : B ≤ w.heap.size) : Below B u w' :=
  hb.grown hg hB (fun k hk => (own_bk ho k hk).1)
/-- The mode of the items, the items, whether the peek's error ends the plan. -/
def refM (k : Int) (at_ key : ByteArray) (wr : Bool) : Int := if k = 9 ∨ k = 19 ∨ k = 20 ∨ k = 14 ∨ k = 17 then 3 else if (k = 15 ∨ k = 16) ∧ at_ ≠ key ∧ wr = false then 3 else 6
def refI (k : Int) (at_ key it : ByteArray) (ks : List ByteArray) : List ByteArray := if k = 8 then [] else if k = 14 ∨ k = 15 ∨ k = 16 then [at_] else if k = 13 then (if at_ = key then [key] else [key, at_]) else if k = 17 then ks.map placeB else [it]
def asks (k : Int) : Bool := decide (k = 14 ∨ k = 15 ∨ k = 16 ∨ k = 13 ∨ k = 17)
def IK (k : Int) : Prop := k = 8 ∨ k = 9 ∨ k = 10 ∨ k = 11 ∨ k = 13 ∨ k = 14 ∨ k = 15 ∨ k = 16 ∨ k = 17 ∨ k = 18 ∨ k = 19 ∨ k = 20 ∨ k = 21 ∨ k = 22 ∨ k = 23
theorem tx_made (w : World) {B : Nat} (hB : B ≤ w.heap.size) (cs : Array Value) (l : List ByteArray) (h : cs.toList = l.map Value.string) (hl : cs.size = l.length * 1) (hm : l.length ≤ maxLen) : (w.alloc (.cells cs 9)).ownsRow B 9 1 (.slice (some ⟨w.heap.size, 0, none⟩) l.length l.length) l.length (l.map Value.string) := by
  refine ⟨by rw [← h]; simpa using hl, .inr ⟨w.heap.size, l.length, cs, rfl, hB, heap_alloc_new w _, Nat.le_refl _, hm, hl, ?_⟩⟩
  rw [h, List.take_of_length_le (by rw [← h]; simp; omega)]

set_option maxRecDepth 100000 in
set_option maxHeartbeats 8000000 in
theorem rneeds_items (q : Opn) (nx : ByteArray) (kv : Value) (ks : List ByteArray) (wr : Bool) (w : World) (hk : IK q.k) (hT : TxAt w w.heap.size kv ks) (hn : ks.length ≤ 1500000) (lo : -9223372036854775808 ≤ q.num) (hi0 : q.num ≤ 9223372036854775807) :
    Calls Tryd.prog 8 #[.agg q.cs, .string nx, kv, .bool wr] w (RefPost (if wr = true ∧ asks q.k = true then aboveL q.st (refM q.k (placeB nx) q.key wr) else itemsL q.st (refM q.k (placeB nx) q.key wr) (refI q.k (placeB nx) q.key (itemB q.num) ks)) w) := by
  have B0 := Lib.hid (show Below w.heap.size w ((w.alloc (.cells q.cs 23)).alloc (.cells #[.int .i64 q.st, .string ⟨#[]⟩] 38)) from ((Below.refl w.heap.size w).alloc (Nat.le_refl _) _).alloc (by simp) _)
  have K0 := Lib.hid (show Bk ((w.alloc (.cells q.cs 23)).alloc (.cells #[.int .i64 q.st, .string ⟨#[]⟩] 38)) w.heap.size 23 q.cs from (Bk.new w _ _).alloc _)
  have S0 := Lib.hid (show Bk ((w.alloc (.cells q.cs 23)).alloc (.cells #[.int .i64 q.st, .string ⟨#[]⟩] 38)) (w.heap.size + 1) 38 #[.int .i64 q.st, .string ⟨#[]⟩] from by have := Bk.new (w.alloc (.cells q.cs 23)) 38 #[.int .i64 q.st, .string ⟨#[]⟩]; simpa using this)
  obtain ⟨i0, hi, hz0, hz1, hz2⟩ := info_parts Tryd.info38
  obtain ⟨i1, hi', hy0, hy1, hy2⟩ := info_parts Tryd.info3
  obtain ⟨i2, hi2, hx0, hx1, hx2⟩ := info_parts Tryd.info9
  have CE := Lib.hid end_any
  have CI := Lib.hid (fun w => ritem_any q.num w lo hi0)
  have HT := Lib.hid hT; have HN := Lib.hid hn; have HK := Lib.hid hk
  have PN := Lib.hid (show nx = ⟨#[]⟩ → placeB nx = endB from fun h => if_pos h)
  have PO := Lib.hid (show nx ≠ ⟨#[]⟩ → placeB nx = nx from fun h => if_neg h)
  clear lo hi0 hT hn hk
  generalize placeB nx = A at *
  generalize itemB q.num = it at *
  unfold RefPost
  obtain ⟨k, st, key, val, num, at_, len⟩ := q
  unfold Opn.cs at *
  dsimp only at B0 K0 S0 CI HK ⊢
  have RP := Lib.hid (show wr = true ∧ asks k = true → (if wr = true ∧ asks k = true then aboveL st (refM k A key wr) else itemsL st (refM k A key wr) (refI k A key it ks)) = aboveL st (refM k A key wr) from fun h => if_pos h)
  have RN := Lib.hid (show ¬ (wr = true ∧ asks k = true) → (if wr = true ∧ asks k = true then aboveL st (refM k A key wr) else itemsL st (refM k A key wr) (refI k A key it ks)) = itemsL st (refM k A key wr) (refI k A key it ks) from fun h => if_neg h)
  generalize (if wr = true ∧ asks k = true then aboveL st (refM k A key wr) else itemsL st (refM k A key wr) (refI k A key it ks)) = RL at *
  go_enter Tryd.func8, Tryd.ntmps8
  go_upto_if 22 with fail
  go_cut [1] (fun s1 wx => s1 = .string A ∧ Bk wx w.heap.size 23 #[.int .i64 k, .int .i64 st, .string key, .string val, .int .i64 num, .int .i64 at_, .int .i64 len] ∧ Bk wx (w.heap.size + 1) 38 #[.int .i64 st, .string ⟨#[]⟩] ∧ Below w.heap.size w wx)
  case first =>
    as_aux_lemma =>
      have h00 : (⟨#[]⟩ : ByteArray).toList = [] := by rw [ByteArray.toList_eq]
      have hne : nx ≠ ⟨#[]⟩ → nx.toList ≠ [] := by
        intro h e
        have := str_ne h
        rw [e, h00] at this
        simp at this
      go_wp2_with fail
      · have HA := Lib.hid (PN.out (by
          refine Classical.byContradiction fun h => ?_
          have hx : nx.toList.isEmpty = true := by assumption
          exact hne h (by simpa using hx)))
        refine (CE.out _).mono ?_
        rintro e y ⟨rfl, hb⟩
        go_wp2_with fail
        go_meet
        exact ⟨by rw [HA.out], K0.out.kept hb, S0.out.kept hb, below_then B0.out hb B0.out.size⟩
      · have HA := Lib.hid (PO.out (by
          intro h
          have hx : nx.toList.isEmpty = false := by assumption
          rw [h, h00] at hx
          simp at hx))
        go_meet
        exact ⟨by rw [HA.out], K0.out, S0.out, B0.out⟩
  case rest =>
  as_aux_lemma =>
  obtain ⟨rfl, k1, s1, b1⟩ := hcut
  have K1 := Lib.hid k1; have S1 := Lib.hid s1; have B1 := Lib.hid b1
  have HT1 := Lib.hid (HT.out.below b1 (Nat.le_refl _))
  clear k1 s1 b1 B0 K0 S0 PN PO HT
  have c0 : wc.cell? ⟨w.heap.size, 0, none⟩ = some (.int .i64 k) := K1.out.cell 0
  have c2 : wc.cell? ⟨w.heap.size, 2, none⟩ = some (.string key) := K1.out.cell 2
  have c4 : wc.cell? ⟨w.heap.size, 4, none⟩ = some (.int .i64 num) := K1.out.cell 4
  go_upto_block 0 with fail
  go_cut [13, 14] (fun s13 s14 wx => s13 = .int .i64 (refM k A key wr) ∧ wx.ownsRow w.heap.size 9 1 s14 (refI k A key it ks).length ((refI k A key it ks).map Value.string) ∧ Bk wx w.heap.size 23 #[.int .i64 k, .int .i64 st, .string key, .string val, .int .i64 num, .int .i64 at_, .int .i64 len] ∧ Bk wx (w.heap.size + 1) 38 #[.int .i64 st, .string ⟨#[]⟩] ∧ Below w.heap.size w wx)
  case first =>
    as_aux_lemma =>
      rcases HK.out with rfl | rfl | rfl | rfl | rfl | rfl | rfl | rfl | rfl | rfl | rfl | rfl | rfl | rfl | rfl
      · go_wp2_with fail
        go_meet
        exact ⟨rfl, World.ownsRow_nil _ _ _ _, K1.out, S1.out, B1.out⟩
      · go_wp2_with fail
        refine (CI.out _).mono ?_
        rintro e y ⟨rfl, hb⟩
        have B2 := Lib.hid (below_then B1.out hb B1.out.size)
        have I2 := Lib.hid (tx_made y B2.out.size #[.string it] [it] rfl rfl (by simp [maxLen]))
        have K2 := Lib.hid ((K1.out.kept hb).alloc (.cells #[.string it] 9)); have S2 := Lib.hid ((S1.out.kept hb).alloc (.cells #[.string it] 9))
        clear hb
        go_wp2_with fail
        go_meet
        exact ⟨rfl, I2.out, K2.out, S2.out, B2.out.alloc B2.out.size _⟩
      · go_wp2_with fail
        refine (CI.out _).mono ?_
        rintro e y ⟨rfl, hb⟩
        have B2 := Lib.hid (below_then B1.out hb B1.out.size)
        have I2 := Lib.hid (tx_made y B2.out.size #[.string it] [it] rfl rfl (by simp [maxLen]))
        have K2 := Lib.hid ((K1.out.kept hb).alloc (.cells #[.string it] 9)); have S2 := Lib.hid ((S1.out.kept hb).alloc (.cells #[.string it] 9))
        clear hb
        go_wp2_with fail
        go_meet
        exact ⟨rfl, I2.out, K2.out, S2.out, B2.out.alloc B2.out.size _⟩
      · go_wp2_with fail
        refine (CI.out _).mono ?_
        rintro e y ⟨rfl, hb⟩
        have B2 := Lib.hid (below_then B1.out hb B1.out.size)
        have I2 := Lib.hid (tx_made y B2.out.size #[.string it] [it] rfl rfl (by simp [maxLen]))
        have K2 := Lib.hid ((K1.out.kept hb).alloc (.cells #[.string it] 9)); have S2 := Lib.hid ((S1.out.kept hb).alloc (.cells #[.string it] 9))
        clear hb
        go_wp2_with fail
        go_meet
        exact ⟨rfl, I2.out, K2.out, S2.out, B2.out.alloc B2.out.size _⟩
      · by_cases heq : A = key
        · subst heq
          have hqq : (A.toList == A.toList) = true := by simp
          have hqn : (A.toList != A.toList) = false := by simp
          have RI := Lib.hid (show refI 13 A A it ks = [A] by simp [refI])
          have RM := Lib.hid (show refM 13 A A wr = 6 by simp [refM])
          have I2 := Lib.hid (tx_made wc B1.out.size #[.string A] [A] rfl rfl (by simp [maxLen]))
          have K2 := Lib.hid (K1.out.alloc (.cells #[.string A] 9))
          have c2 : (wc.alloc (.cells #[.string A] 9)).cell? ⟨w.heap.size, 2, none⟩ = some (.string A) := K2.out.cell 2
          go_wp2_with fail
          go_meet
          exact ⟨by rw [RM.out], by rw [RI.out]; exact I2.out, K2.out, S1.out.alloc _, B1.out.alloc B1.out.size _⟩
        · have hqq : (A.toList == key.toList) = false := str_ne heq
          have hqn : (A.toList != key.toList) = true := by simp [bne, hqq]
          have RI := Lib.hid (show refI 13 A key it ks = [key, A] by simp [refI, heq])
          have RM := Lib.hid (show refM 13 A key wr = 6 by simp [refM])
          have I2 := Lib.hid (tx_made wc B1.out.size #[.string key] [key] rfl rfl (by simp [maxLen]))
          have K2 := Lib.hid (K1.out.alloc (.cells #[.string key] 9)); have S2 := Lib.hid (S1.out.alloc (.cells #[.string key] 9)); have B2 := Lib.hid (B1.out.alloc B1.out.size (.cells #[.string key] 9))
          have c2 : (wc.alloc (.cells #[.string key] 9)).cell? ⟨w.heap.size, 2, none⟩ = some (.string key) := K2.out.cell 2
          have HW := Lib.hid (show wc.heap.size + 1 = (wc.alloc (.cells #[.string key] 9)).heap.size by simp)
          clear heq
          go_upto_region 44 with fail
          generalize (wc.alloc (.cells #[.string key] 9)) = x at *
          have T2 := Lib.hid (Bk.new x 9 #[.string A])
          have O2 := Lib.hid (World.ownsRow.alloc I2.out (.cells #[.string A] 9))
          go_wp2_with (at_builtin; refine wpList_append_one _ rfl _ _ 24 rfl w.heap.size 9 i2 (.string ⟨#[]⟩) 1 16 Tryd.underlying24 hi2 hx0 hx1 hx2 rfl (.slice (some ⟨wc.heap.size, 0, none⟩) 1 1) 1 [.string key] rfl O2.out ⟨x.heap.size, 0, none⟩ 1 [.string A] rfl rfl ?qc2 ?qc3 ?qc4 (by omega) ?qc5 ?qc6 ?_)
          case qc2 =>
            intro j u hj
            rw [Addr.add_lit, Nat.zero_add]
            refine Eq.trans (T2.out.cell j) ?_
            simpa using hj
          case qc3 => simp [Value.oneCell']
          case qc4 => unfold maxLen; omega
          case qc5 => omega
          case qc6 => have := B2.out.size; simp; omega
          intro v2 w2 hown hgrow
          have O3 := Lib.hid hown
          obtain ⟨ya, yc, hye⟩ := tx_slice O3.out
          subst hye
          have ob := fun k hk => own_bk O2.out k hk
          have B3 := Lib.hid ((B2.out.alloc B2.out.size (.cells #[.string A] 9)).grown hgrow (by have := B2.out.size; simp; omega) (fun k hk => (ob k hk).1))
          have K3 := Lib.hid (K2.out.alloc (.cells #[.string A] 9) |>.grown hgrow (fun h => by obtain ⟨_, cur, hc⟩ := ob _ h.symm; exact Bk.ne_ (K2.out.alloc (.cells #[.string A] 9)) hc (by decide) rfl))
          have S3 := Lib.hid (S2.out.alloc (.cells #[.string A] 9) |>.grown hgrow (fun h => by obtain ⟨_, cur, hc⟩ := ob _ h.symm; exact Bk.ne_ (S2.out.alloc (.cells #[.string A] 9)) hc (by decide) rfl))
          clear hown hgrow ob
          go_wp2_with fail
          go_meet
          exact ⟨by rw [RM.out], by rw [RI.out]; exact O3.out, K3.out, S3.out, B3.out⟩
      · have RI := Lib.hid (show refI 14 A key it ks = [A] by simp [refI])
        have I2 := Lib.hid (tx_made wc B1.out.size #[.string A] [A] rfl rfl (by simp [maxLen]))
        go_wp2_with fail
        go_meet
        exact ⟨rfl, by rw [RI.out]; exact I2.out, K1.out.alloc _, S1.out.alloc _, B1.out.alloc B1.out.size _⟩
      · have RI := Lib.hid (show refI 15 A key it ks = [A] by simp [refI])
        have I2 := Lib.hid (tx_made wc B1.out.size #[.string A] [A] rfl rfl (by simp [maxLen]))
        have K2 := Lib.hid (K1.out.alloc (.cells #[.string A] 9))
        have c2 : (wc.alloc (.cells #[.string A] 9)).cell? ⟨w.heap.size, 2, none⟩ = some (.string key) := K2.out.cell 2
        by_cases heq : A = key
        · have RM := Lib.hid (show refM 15 A key wr = 6 by simp [refM, heq])
          have hqq : (A.toList == key.toList) = true := by rw [heq]; simp
          have hqn : (A.toList != key.toList) = false := by rw [heq]; simp
          clear heq
          go_wp2_with fail
          go_meet
          exact ⟨by rw [RM.out], by rw [RI.out]; exact I2.out, K2.out, S1.out.alloc _, B1.out.alloc B1.out.size _⟩
        · have hqq : (A.toList == key.toList) = false := str_ne heq
          have hqn : (A.toList != key.toList) = true := by simp [bne, hqq]
          cases wr
          · have RM := Lib.hid (show refM 15 A key false = 3 by simp [refM, heq])
            clear heq
            go_wp2_with fail
            go_meet
            exact ⟨by rw [RM.out], by rw [RI.out]; exact I2.out, K2.out, S1.out.alloc _, B1.out.alloc B1.out.size _⟩
          · have RM := Lib.hid (show refM 15 A key true = 6 by simp [refM])
            clear heq
            go_wp2_with fail
            go_meet
            exact ⟨by rw [RM.out], by rw [RI.out]; exact I2.out, K2.out, S1.out.alloc _, B1.out.alloc B1.out.size _⟩
      · have RI := Lib.hid (show refI 16 A key it ks = [A] by simp [refI])
        have I2 := Lib.hid (tx_made wc B1.out.size #[.string A] [A] rfl rfl (by simp [maxLen]))
        have K2 := Lib.hid (K1.out.alloc (.cells #[.string A] 9))
        have c2 : (wc.alloc (.cells #[.string A] 9)).cell? ⟨w.heap.size, 2, none⟩ = some (.string key) := K2.out.cell 2
        by_cases heq : A = key
        · have RM := Lib.hid (show refM 16 A key wr = 6 by simp [refM, heq])
          have hqq : (A.toList == key.toList) = true := by rw [heq]; simp
          have hqn : (A.toList != key.toList) = false := by rw [heq]; simp
          clear heq
          go_wp2_with fail
          go_meet
          exact ⟨by rw [RM.out], by rw [RI.out]; exact I2.out, K2.out, S1.out.alloc _, B1.out.alloc B1.out.size _⟩
        · have hqq : (A.toList == key.toList) = false := str_ne heq
          have hqn : (A.toList != key.toList) = true := by simp [bne, hqq]
          cases wr
          · have RM := Lib.hid (show refM 16 A key false = 3 by simp [refM, heq])
            clear heq
            go_wp2_with fail
            go_meet
            exact ⟨by rw [RM.out], by rw [RI.out]; exact I2.out, K2.out, S1.out.alloc _, B1.out.alloc B1.out.size _⟩
          · have RM := Lib.hid (show refM 16 A key true = 6 by simp [refM])
            clear heq
            go_wp2_with fail
            go_meet
            exact ⟨by rw [RM.out], by rw [RI.out]; exact I2.out, K2.out, S1.out.alloc _, B1.out.alloc B1.out.size _⟩
      · have T0 := Lib.hid HT1.out
        obtain ⟨va, vc, hva, _, _⟩ := HT1.out
        subst hva
        have RI := Lib.hid (show refI 17 A key it ks = ks.map placeB by simp [refI])
        clear c2 c4 CI
        go_wp2_with fail
        go_loopw [14, 15] (fun x i wr => ∃ j : Nat, j ≤ ks.length ∧ i = .int .i64 j ∧ wr.ownsRow wc.heap.size 9 1 x j (((ks.take j).map placeB).map .string) ∧ Below wc.heap.size wc wr) (fun _ i _ => ks.length - (intOf i).toNat)
        case atStart => exact ⟨0, Nat.zero_le _, rfl, World.ownsRow_nil _ _ _ _, Below.refl _ _⟩
        case round =>
          obtain ⟨j, hj, rfl, hO, hb'⟩ := hrel
          obtain ⟨xa, xc, hxe⟩ := tx_slice hO
          subst hxe
          have O0 := Lib.hid hO; have B2' := Lib.hid hb'
          clear hO hb'
          by_cases hlt : j < ks.length
          · have HLT := Lib.hid hlt
            have hj6 : j < 1500001 := by have := HN.out; omega
            obtain ⟨a', c', e1, _, hx⟩ := T0.out
            obtain ⟨b, off, rfl, hbB, hc⟩ := hx (by omega)
            obtain ⟨rfl, rfl⟩ : va = some ⟨b, off, none⟩ ∧ vc = c' := by simpa using e1
            have q0 : wr.cell? ⟨b, off + j, none⟩ = some (.string ks[j]) := by
              rw [B2'.out.cell (p := ⟨b, off + j, none⟩) (Nat.lt_of_lt_of_le hbB B1.out.size)]; exact hc j _ (List.getElem?_eq_getElem hlt)
            have TK := Lib.hid (show ((ks.take (j + 1)).map placeB).map Value.string = ((ks.take j).map placeB).map Value.string ++ [.string (placeB ks[j])] by rw [List.take_succ_eq_append_getElem hlt, List.map_append, List.map_append]; rfl)
            generalize ks[j] = nm at *
            generalize ((ks.take j).map placeB).map Value.string = xs at *
            have O1 := Lib.hid (show (wr.alloc (.cells #[.string (placeB nm)] 9)).ownsRow wc.heap.size 9 1 (.slice xa j xc) j xs from World.ownsRow.alloc O0.out _)
            clear hx e1 hc
            by_cases hnm : nm = ⟨#[]⟩
            · have PE := Lib.hid (show placeB nm = endB from if_pos hnm)
              subst hnm
              have h00 : (⟨#[]⟩ : ByteArray).toList = [] := by rw [ByteArray.toList_eq]
              have h01 : (⟨#[]⟩ : ByteArray).toList.isEmpty = true := by rw [h00]; rfl
              go_wp2_with fail
              refine (CE.out wr).mono ?_
              rintro e y ⟨rfl, hb⟩
              have C2 := Lib.hid (below_then B2'.out hb B2'.out.size); have O2 := Lib.hid (World.ownsRow.alloc (own_kept O0.out hb) (.cells #[.string endB] 9))
              rw [PE.out] at TK
              clear hb q0
              generalize endB = pn at *
              go_wp2_with (at_builtin; refine wpList_append_one _ rfl _ _ 24 rfl wc.heap.size 9 i2 (.string ⟨#[]⟩) 1 16 Tryd.underlying24 hi2 hx0 hx1 hx2 rfl (.slice xa j xc) j xs rfl O2.out ⟨y.heap.size, 0, none⟩ 1 [.string pn] rfl rfl ?qc2 ?qc3 ?qc4 (by omega) ?qc5 ?qc6 ?_)
              case qc2 =>
                intro q u hu
                rw [Addr.add_lit, Nat.zero_add]
                refine Eq.trans ((Bk.new y 9 #[.string pn]).cell q) ?_
                simpa using hu
              case qc3 => simp [Value.oneCell']
              case qc4 => unfold maxLen; omega
              case qc5 => omega
              case qc6 => have := C2.out.size; simp; omega
              intro v2 w2 hown hgrow
              rw [← TK.out] at hown
              obtain ⟨za, zc, hye⟩ := tx_slice hown
              subst hye
              have O3 := Lib.hid hown
              have C3 := Lib.hid (below_grow (C2.out.alloc C2.out.size (.cells #[.string pn] 9)) hgrow (fun k hk => (O2.out.lt k hk).1) (by have := C2.out.size; simp; omega))
              clear hown hgrow
              go_wp2
              go_roundw
              case rel => exact ⟨j + 1, by have := HLT.out; omega, by go_num, O3.out, C3.out⟩
              case measure => have := HLT.out; simp [intOf]; omega
            · have PE := Lib.hid (show placeB nm = nm from if_neg hnm)
              have h01 : nm.toList.isEmpty = false := by
                have h := str_ne hnm
                rw [ByteArray.toList_eq (⟨#[]⟩ : ByteArray)] at h
                simpa using h
              have C2 := B2'; have O2 := Lib.hid (World.ownsRow.alloc O0.out (.cells #[.string nm] 9))
              rw [PE.out] at TK O1
              have PM := Lib.hid (show nm = nm from rfl)
              go_wp2_with (at_builtin; refine wpList_append_one _ rfl _ _ 24 rfl wc.heap.size 9 i2 (.string ⟨#[]⟩) 1 16 Tryd.underlying24 hi2 hx0 hx1 hx2 rfl (.slice xa j xc) j xs rfl O2.out ⟨wr.heap.size, 0, none⟩ 1 [.string nm] rfl rfl ?pd2 ?pd3 ?pd4 (by omega) ?pd5 ?pd6 ?_)
              case pd3 => simp [Value.oneCell']
              case pd4 => unfold maxLen; omega
              case pd5 => omega
              case pd6 => have := C2.out.size; simp; omega
              intro v2 w2 hown hgrow
              rw [← TK.out] at hown
              obtain ⟨za, zc, hye⟩ := tx_slice hown
              subst hye
              have O3 := Lib.hid hown
              have C3 := Lib.hid (below_grow (C2.out.alloc C2.out.size (.cells #[.string nm] 9)) hgrow (fun k hk => (O2.out.lt k hk).1) (by have := C2.out.size; simp; omega))
              clear hown hgrow
              go_wp2
              go_roundw
              case rel => exact ⟨j + 1, by have := HLT.out; omega, by go_num, O3.out, C3.out⟩
              case measure => have := HLT.out; simp [intOf]; omega
          · obtain rfl : j = ks.length := by omega
            have O2 := Lib.hid O0.out
            rw [List.take_of_length_le (Nat.le_refl _)] at O2
            go_wp2_with fail
            go_meet
            exact ⟨rfl, by rw [RI.out, List.length_map]; exact own_mono O2.out B1.out.size, K1.out.kept B2'.out, S1.out.kept B2'.out, below_then B1.out B2'.out B1.out.size⟩
      · go_wp2_with fail
        refine (CI.out _).mono ?_
        rintro e y ⟨rfl, hb⟩
        have B2 := Lib.hid (below_then B1.out hb B1.out.size)
        have I2 := Lib.hid (tx_made y B2.out.size #[.string it] [it] rfl rfl (by simp [maxLen]))
        have K2 := Lib.hid ((K1.out.kept hb).alloc (.cells #[.string it] 9)); have S2 := Lib.hid ((S1.out.kept hb).alloc (.cells #[.string it] 9))
        clear hb
        go_wp2_with fail
        go_meet
        exact ⟨rfl, I2.out, K2.out, S2.out, B2.out.alloc B2.out.size _⟩
      · go_wp2_with fail
        refine (CI.out _).mono ?_
        rintro e y ⟨rfl, hb⟩
        have B2 := Lib.hid (below_then B1.out hb B1.out.size)
        have I2 := Lib.hid (tx_made y B2.out.size #[.string it] [it] rfl rfl (by simp [maxLen]))
        have K2 := Lib.hid ((K1.out.kept hb).alloc (.cells #[.string it] 9)); have S2 := Lib.hid ((S1.out.kept hb).alloc (.cells #[.string it] 9))
        clear hb
        go_wp2_with fail
        go_meet
        exact ⟨rfl, I2.out, K2.out, S2.out, B2.out.alloc B2.out.size _⟩
      · go_wp2_with fail
        refine (CI.out _).mono ?_
        rintro e y ⟨rfl, hb⟩
        have B2 := Lib.hid (below_then B1.out hb B1.out.size)
        have I2 := Lib.hid (tx_made y B2.out.size #[.string it] [it] rfl rfl (by simp [maxLen]))
        have K2 := Lib.hid ((K1.out.kept hb).alloc (.cells #[.string it] 9)); have S2 := Lib.hid ((S1.out.kept hb).alloc (.cells #[.string it] 9))
        clear hb
        go_wp2_with fail
        go_meet
        exact ⟨rfl, I2.out, K2.out, S2.out, B2.out.alloc B2.out.size _⟩
      · go_wp2_with fail
        refine (CI.out _).mono ?_
        rintro e y ⟨rfl, hb⟩
        have B2 := Lib.hid (below_then B1.out hb B1.out.size)
        have I2 := Lib.hid (tx_made y B2.out.size #[.string it] [it] rfl rfl (by simp [maxLen]))
        have K2 := Lib.hid ((K1.out.kept hb).alloc (.cells #[.string it] 9)); have S2 := Lib.hid ((S1.out.kept hb).alloc (.cells #[.string it] 9))
        clear hb
        go_wp2_with fail
        go_meet
        exact ⟨rfl, I2.out, K2.out, S2.out, B2.out.alloc B2.out.size _⟩
      · go_wp2_with fail
        refine (CI.out _).mono ?_
        rintro e y ⟨rfl, hb⟩
        have B2 := Lib.hid (below_then B1.out hb B1.out.size)
        have I2 := Lib.hid (tx_made y B2.out.size #[.string it] [it] rfl rfl (by simp [maxLen]))
        have K2 := Lib.hid ((K1.out.kept hb).alloc (.cells #[.string it] 9)); have S2 := Lib.hid ((S1.out.kept hb).alloc (.cells #[.string it] 9))
        clear hb
        go_wp2_with fail
        go_meet
        exact ⟨rfl, I2.out, K2.out, S2.out, B2.out.alloc B2.out.size _⟩
      · go_wp2_with fail
        refine (CI.out _).mono ?_
        rintro e y ⟨rfl, hb⟩
        have B2 := Lib.hid (below_then B1.out hb B1.out.size)
        have I2 := Lib.hid (tx_made y B2.out.size #[.string it] [it] rfl rfl (by simp [maxLen]))
        have K2 := Lib.hid ((K1.out.kept hb).alloc (.cells #[.string it] 9)); have S2 := Lib.hid ((S1.out.kept hb).alloc (.cells #[.string it] 9))
        clear hb
        go_wp2_with fail
        go_meet
        exact ⟨rfl, I2.out, K2.out, S2.out, B2.out.alloc B2.out.size _⟩
  case rest =>
  as_aux_lemma =>
  obtain ⟨rfl, i1, k1, s1, b1⟩ := hcut
  have hlen : (refI k A key it ks).length ≤ 1500002 := by
    have := HN.out
    unfold refI
    repeat' split
    all_goals simp
    omega
  have AL := Lib.hid (show aboveL st (refM k A key wr) = [⟨0, ⟨#[]⟩, Md.abv (refM k A key wr)⟩, ⟨st, ⟨#[]⟩, Md.abv (refM k A key wr)⟩] from rfl)
  have IL := Lib.hid (show itemsL st (refM k A key wr) (refI k A key it ks) = aboveL st (refM k A key wr) ++ (refI k A key it ks).map (fun s => ⟨st, s, refM k A key wr⟩) from rfl)
  have CA := Lib.hid (fun w => rabv_any (refM k A key wr) w)
  generalize itemsL st (refM k A key wr) (refI k A key it ks) = il at *
  generalize aboveL st (refM k A key wr) = al at *
  generalize refM k A key wr = m at *
  generalize refI k A key it ks = its at *
  generalize Md.abv m = am at *
  obtain ⟨ia, ic, hie⟩ := tx_slice i1
  subst hie
  have HL := Lib.hid hlen; have I1 := Lib.hid i1; have K1 := Lib.hid k1; have S1 := Lib.hid s1; have B1 := Lib.hid b1
  clear i1 k1 s1 b1 hlen c0 c2 c4
  have s0 : wc.cell? ⟨w.heap.size + 1, 0, none⟩ = some (.int .i64 st) := S1.out.cell 0
  have s1 : wc.cell? ⟨w.heap.size + 1, 1, none⟩ = some (.string ⟨#[]⟩) := S1.out.cell 1
  have gl : w.heap.size + 1 < wc.heap.size := S1.out.lt
  generalize wc = x at *
  have T0 := Lib.hid (Bk.new x 38 #[.int .i64 0, .string ⟨#[]⟩, .int .i64 st, .string ⟨#[]⟩])
  have GL := Lib.hid gl
  go_wp2_with (at_builtin; refine wpList_append_own _ rfl _ _ 33 rfl w.heap.size 38 i0 (.agg #[.int .i64 0, .string ⟨#[]⟩]) 2 24 Tryd.underlying33 hi hz0 hz1 hz2 rfl (by decide) (.slice none 0 0) 0 [] rfl (World.ownsRow_nil _ _ _ _) ⟨x.heap.size, 0, none⟩ 2 2 [.int .i64 0, .string ⟨#[]⟩, .int .i64 st, .string ⟨#[]⟩] rfl rfl ?qc2 ?qc3 ?qc4 (by omega) ?qc6 ?_)
  case qc2 =>
    intro j u hj
    rw [Addr.add_lit, Nat.zero_add]
    refine Eq.trans (T0.out.cell j) ?_
    simpa using hj
  case qc3 => simp [Value.oneCell']
  case qc4 => unfold maxLen; omega
  case qc6 => have := GL.out; simp; omega
  clear T0 s0 s1 gl S1
  intro nv x1 hown hgrow _
  have R1 := Lib.hid hown
  have H1 := Lib.hid (below_none rfl ((Below.refl x.heap.size x).alloc (Nat.le_refl _) (.cells #[.int .i64 0, .string ⟨#[]⟩, .int .i64 st, .string ⟨#[]⟩] 38)) hgrow (by simp))
  have B2 := Lib.hid (below_then B1.out H1.out B1.out.size)
  have K2 := Lib.hid (K1.out.kept H1.out); have I2 := Lib.hid (own_kept I1.out H1.out)
  clear hown hgrow K1 B1 I1 GL
  go_wp2_with fail
  refine (CA.out _).mono ?_
  rintro e x2 ⟨rfl, hb⟩
  have H2 := Lib.hid hb
  clear hb
  go_wp2_with fail
  refine (CA.out _).mono ?_
  rintro e x3 ⟨rfl, hb⟩
  have H3 := Lib.hid (below_then H2.out hb H2.out.size)
  have R3 := Lib.hid (own_kept R1.out H3.out); have B3 := Lib.hid (below_then B2.out H3.out B2.out.size); have K3 := Lib.hid (K2.out.kept H3.out); have I3 := Lib.hid (own_kept I2.out H3.out)
  have T3 := Lib.hid (Bk.new x3 3 #[.int .i64 am, .int .i64 am])
  clear hb R1 B2 K2 I2 H2 H3 H1
  go_wp2_with (at_builtin; refine wpList_append_own _ rfl _ _ 34 rfl w.heap.size 3 i1 (.int .i64 0) 1 8 Tryd.underlying34 hi' hy0 hy1 hy2 rfl (by decide) (.slice none 0 0) 0 [] rfl (World.ownsRow_nil _ _ _ _) ⟨x3.heap.size, 0, none⟩ 2 2 [.int .i64 am, .int .i64 am] rfl rfl ?qd2 ?qd3 ?qd4 (by omega) ?qd6 ?_)
  case qd2 =>
    intro j u hj
    rw [Addr.add_lit, Nat.zero_add]
    refine Eq.trans (T3.out.cell j) ?_
    simpa using hj
  case qd3 => simp [Value.oneCell']
  case qd4 => unfold maxLen; omega
  case qd6 => have := B3.out.size; simp; omega
  clear T3
  intro mv x4 hown hgrow _
  have M4 := Lib.hid hown
  have H4 := Lib.hid (below_none rfl ((Below.refl x3.heap.size x3).alloc (Nat.le_refl _) (.cells #[.int .i64 am, .int .i64 am] 3)) hgrow (by simp))
  have R4 := Lib.hid (own_kept R3.out H4.out); have B4 := Lib.hid (below_then B3.out H4.out B3.out.size); have K4 := Lib.hid (K3.out.kept H4.out); have I4 := Lib.hid (own_kept I3.out H4.out)
  clear hown hgrow R3 B3 K3 I3 H4
  go_upto_region 55 with fail
  obtain ⟨na, nc, hne⟩ := tx_slice R4.out
  obtain ⟨ma, mc, hme⟩ := tx_slice M4.out
  subst hne
  subst hme
  have c0 : x4.cell? ⟨w.heap.size, 0, none⟩ = some (.int .i64 k) := K4.out.cell 0
  go_cut [16] (fun s16 wx => s16 = .bool (asks k) ∧ wx = x4)
  case first =>
    as_aux_lemma =>
      by_cases ha : k = 14 ∨ k = 15 ∨ k = 16 ∨ k = 13 ∨ k = 17
      · rcases ha with rfl | rfl | rfl | rfl | rfl
        all_goals
          go_wp2_with fail
          go_meet
          exact ⟨rfl, rfl⟩
      · have ea := Lib.hid (show asks k = false from decide_eq_false ha)
        have g13 : (k == 13) = false := by simp; omega
        have g14 : (k == 14) = false := by simp; omega
        have g15 : (k == 15) = false := by simp; omega
        have g16 : (k == 16) = false := by simp; omega
        have g17 : (k == 17) = false := by simp; omega
        clear ha
        go_wp2_with fail
        go_meet
        exact ⟨by rw [ea.out], rfl⟩
  case rest =>
  as_aux_lemma =>
  obtain ⟨rfl, rfl⟩ := hcut
  generalize asks k = bk at *
  clear HK c0
  go_upto_region 56 with fail
  go_cut [156] (fun s156 wx => s156 = .bool (wr && bk) ∧ wx = wc)
  case first =>
    as_aux_lemma =>
      cases wr <;> cases bk
      all_goals
        go_wp2_with fail
        go_meet
        exact ⟨rfl, rfl⟩
  case rest =>
  as_aux_lemma =>
  obtain ⟨rfl, rfl⟩ := hcut
  cases hwb : (wr && bk)
  case true =>
    as_aux_lemma =>
      have hL := RP.out (by simpa using hwb)
      have LL := Lib.hid (hL.trans AL.out)
      clear hL RP RN hwb
      go_wp2_with fail
      go_ret2
      exact ⟨_, _, rfl, by rw [LL.out]; exact R4.out, by rw [LL.out]; exact M4.out, B4.out⟩
  case false =>
  as_aux_lemma =>
  have hL := RN.out (by simpa using hwb)
  have LL := Lib.hid (hL.trans IL.out)
  rw [AL.out] at LL
  clear hL RP RN hwb IL AL CA
  go_wp2_with fail
  go_loopw [10, 11, 17] (fun a b i wx => ∃ j : Nat, j ≤ its.length ∧ i = .int .i64 j ∧ wx.ownsRow w.heap.size 38 2 a (j + 2) ([.int .i64 0, .string ⟨#[]⟩, .int .i64 st, .string ⟨#[]⟩] ++ nmL ((its.take j).map fun s => ⟨st, s, m⟩)) ∧ wx.ownsRow w.heap.size 3 1 b (j + 2) ([.int .i64 am, .int .i64 am] ++ mdL ((its.take j).map fun s => ⟨st, s, m⟩)) ∧ wx.ownsRow w.heap.size 9 1 (.slice ia its.length ic) its.length (its.map Value.string) ∧ Bk wx w.heap.size 23 #[.int .i64 k, .int .i64 st, .string key, .string val, .int .i64 num, .int .i64 at_, .int .i64 len] ∧ Below w.heap.size w wx) (fun _ _ i _ => its.length - (intOf i).toNat)
  case atStart => exact ⟨0, Nat.zero_le _, rfl, R4.out, M4.out, I4.out, K4.out, B4.out⟩
  case round =>
    obtain ⟨j, hj, rfl, hR, hM, hI, hK, hB⟩ := hrel
    obtain ⟨ra, rc, hre⟩ := tx_slice hR
    subst hre
    obtain ⟨ta, tc, hte⟩ := tx_slice hM
    subst hte
    have R5 := Lib.hid hR; have M5 := Lib.hid hM; have I5 := Lib.hid hI; have K5 := Lib.hid hK; have B5 := Lib.hid hB
    clear hR hM hI hK hB R4 M4 I4 K4 B4
    by_cases hlt : j < its.length
    · as_aux_lemma =>
        have HLT := Lib.hid hlt
        have hj6 : j < 1500003 := by have := HL.out; omega
        obtain ⟨a', c', e1, _, hx⟩ := tx_own I5.out
        obtain ⟨b, off, hab, hbB, hc⟩ := hx (by omega)
        obtain ⟨rfl, rfl⟩ : ia = some ⟨b, off, none⟩ ∧ ic = c' := by rw [hab] at e1; simpa using e1
        have q0 : wr.cell? ⟨b, off + j, none⟩ = some (.string its[j]) := hc j _ (List.getElem?_eq_getElem hlt)
        have q1 : wr.cell? ⟨w.heap.size, 1, none⟩ = some (.int .i64 st) := K5.out.cell 1
        have TN := Lib.hid (show nmL ((its.take (j + 1)).map fun s => (⟨st, s, m⟩ : Nd)) = nmL ((its.take j).map fun s => ⟨st, s, m⟩) ++ [.int .i64 st, .string its[j]] by rw [List.take_succ_eq_append_getElem hlt, List.map_append, nmL_append]; rfl)
        have TM := Lib.hid (show mdL ((its.take (j + 1)).map fun s => (⟨st, s, m⟩ : Nd)) = mdL ((its.take j).map fun s => ⟨st, s, m⟩) ++ [.int .i64 m] by rw [List.take_succ_eq_append_getElem hlt, List.map_append, mdL_append]; rfl)
        generalize its[j] = nm at *
        generalize nmL ((its.take j).map fun s => (⟨st, s, m⟩ : Nd)) = xs at *
        generalize mdL ((its.take j).map fun s => (⟨st, s, m⟩ : Nd)) = ys at *
        clear hx e1 hc hbB
        go_wp2_with fail
        go_region_law? (first
          | (refine step_append_lies _ rfl _ _ 33 rfl w.heap.size 38 i0 (.agg #[.int .i64 0, .string ⟨#[]⟩]) 2 24 Tryd.underlying33 hi hz0 hz1 hz2 rfl (by decide) (.slice ra (j + 2) rc) (j + 2) ([.int .i64 0, .string ⟨#[]⟩, .int .i64 st, .string ⟨#[]⟩] ++ xs) rfl (own_kept R5.out ((Below.refl wr.heap.size wr).drew.alloc (by simp) _)) ⟨wr.heap.size, 0, none⟩ 1 1 [.int .i64 st, .string nm] rfl rfl (by intro j u hj; rw [Addr.add_lit, Nat.zero_add]; refine Eq.trans ((Bk.new wr.drew 38 #[.int .i64 st, .string nm]).cell j) ?_; simpa using hj) (by simp [Value.oneCell']) (by omega) (by unfold maxLen; omega) (by omega) (by have := B5.out.size; simp; omega) _ rfl ?_; intro gp cap w3 hown hgrow hat hlt3))
        all_goals
          have RN := Lib.hid hown
          have A0 := Lib.hid (own_kept R5.out (w' := wr.drew.alloc (.cells #[.int .i64 st, .string nm] 38)) ((Below.refl wr.heap.size wr).drew.alloc (by simp) _))
          have MN := Lib.hid (own_grown (own_kept M5.out (w' := wr.drew.alloc (.cells #[.int .i64 st, .string nm] 38)) ((Below.refl wr.heap.size wr).drew.alloc (by simp) _)) hgrow (fun k hk => (own_bk A0.out k hk).2) (by decide))
          have IN := Lib.hid (own_grown (own_kept I5.out (w' := wr.drew.alloc (.cells #[.int .i64 st, .string nm] 38)) ((Below.refl wr.heap.size wr).drew.alloc (by simp) _)) hgrow (fun k hk => (own_bk A0.out k hk).2) (by decide))
          have KN := Lib.hid (bk_grown (K5.out.drew.alloc (.cells #[.int .i64 st, .string nm] 38)) A0.out hgrow (by decide))
          have BN := Lib.hid (below_own (B5.out.drew.alloc B5.out.size (.cells #[.int .i64 st, .string nm] 38)) A0.out hgrow (by have := B5.out.size; simp; omega))
          have T5 := Lib.hid (Bk.new w3 3 #[.int .i64 m])
          have O5 := Lib.hid (World.ownsRow.alloc MN.out (.cells #[.int .i64 m] 3))
          have P5 := Lib.hid (World.ownsRow.alloc RN.out (.cells #[.int .i64 m] 3))
          have J5 := Lib.hid (World.ownsRow.alloc IN.out (.cells #[.int .i64 m] 3))
          have L5 := Lib.hid (KN.out.alloc (.cells #[.int .i64 m] 3))
          clear hown hgrow hat hlt3 A0 q0 q1
          go_wp2_with (at_builtin; refine wpList_append_one _ rfl _ _ 34 rfl w.heap.size 3 i1 (.int .i64 0) 1 8 Tryd.underlying34 hi' hy0 hy1 hy2 rfl (.slice ta (j + 2) tc) (j + 2) ([.int .i64 am, .int .i64 am] ++ ys) rfl O5.out ⟨w3.heap.size, 0, none⟩ 1 [.int .i64 m] rfl rfl ?qe2 ?qe3 ?qe4 (by omega) ?qe5 ?qe6 ?_)
          case qe2 =>
            intro j u hj
            rw [Addr.add_lit, Nat.zero_add]
            refine Eq.trans (T5.out.cell j) ?_
            simpa using hj
          case qe3 => simp [Value.oneCell']
          case qe4 => unfold maxLen; omega
          case qe5 => omega
          case qe6 => have := BN.out.size; simp; omega
          intro v6 w6 hown hgrow
          have M6 := Lib.hid hown
          have R6 := Lib.hid (own_grown P5.out hgrow (fun k hk => (own_bk O5.out k hk).2) (by decide))
          have I6 := Lib.hid (own_grown J5.out hgrow (fun k hk => (own_bk O5.out k hk).2) (by decide))
          have K6 := Lib.hid (bk_grown L5.out O5.out hgrow (by decide))
          have B6 := Lib.hid (below_own (BN.out.alloc BN.out.size (.cells #[.int .i64 m] 3)) O5.out hgrow (by have := BN.out.size; simp; omega))
          obtain ⟨va, vc, hve⟩ := tx_slice M6.out
          subst hve
          clear hown hgrow T5 O5 P5 J5 L5 MN RN IN KN BN
          go_wp2
          go_roundw
          case rel => exact ⟨j + 1, by have := HLT.out; omega, by go_num, by rw [TN.out, ← List.append_assoc]; exact R6.out, by rw [TM.out, ← List.append_assoc]; exact M6.out, I6.out, K6.out, B6.out⟩
          case measure => have := HLT.out; simp [intOf]; omega
    · as_aux_lemma =>
        obtain rfl : j = its.length := by omega
        rw [List.take_of_length_le (Nat.le_refl _)] at R5 M5
        have hle : (([⟨0, ⟨#[]⟩, am⟩, ⟨st, ⟨#[]⟩, am⟩] : List Nd) ++ its.map (fun s => (⟨st, s, m⟩ : Nd))).length = its.length + 2 := by simp
        have FR := Lib.hid (show wr.ownsRow w.heap.size 38 2 (.slice ra (its.length + 2) rc) RL.length (nmL RL) from by rw [LL.out, hle, nmL_append]; exact R5.out)
        have FM := Lib.hid (show wr.ownsRow w.heap.size 3 1 (.slice ta (its.length + 2) tc) RL.length (mdL RL) from by rw [LL.out, hle, mdL_append]; exact M5.out)
        clear R5 M5 hle
        go_wp2_with fail
        go_ret2
        exact ⟨_, _, rfl, FR.out, FM.out, B5.out⟩
end Go.Proofs.YtokghbppdmlfkaaDoor
