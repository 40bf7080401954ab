/- Layer 17: LobPieces. Layer 17: the law's steps; LobApart. Layer 17: LobSteps. Layer 17: all objects, told plainly; what a listing adds up to. Layer 17: the reference's objects. Layer 17: listings in memory; the reference's List; Same. Layer 17: add, List. Layer 17: List. Layer 17: the reference's Steps. Layer 17: the reference's Read, After, Pieces. Layer 17: the reference's Pieces, Steps. Layer 17: the reference's Put. Layer 17: LobRuns. -/
import Derived.Test.YtaiiimlmkigajaaGreatLobCh
import Derived.Deep.CutBlock
import Derived.Deep.DeepCutAuto
import Derived.StillTail
import Derived.StillTailTactics
set_option linter.unusedVariables false
set_option linter.unusedSimpArgs false
namespace Go.Proofs.YtaiiimlmkigajaaGreat
open Go.RowKit Go.Maps Go.ChangeShapes Go.WideShapes Go.ChangeAt Go.Deep

/-- Numbers in a slice that came in. -/
structure NmIn (w : World) (v : Value) (l : List Int) : Prop where
  at_ : ∃ a c, v = .slice a l.length c ∧ (0 < l.length → ∃ b off, a = some (⟨b, off, none⟩ : Addr) ∧ b < w.heap.size ∧ ∀ i x, l[i]? = some x → w.cell? ⟨b, off + i, none⟩ = some (.int .i64 x))
  len : l.length ≤ maxLen
  bd : ∀ i ∈ l, in64 i
theorem NmIn.kept {w w' : World} {v : Value} {l : List Int} (h : NmIn w v l) (hb : Below w.heap.size w w') : NmIn w' v l := by
  obtain ⟨a, c, e, h1⟩ := h.at_
  refine ⟨⟨a, c, e, fun hm => ?_⟩, h.len, h.bd⟩
  obtain ⟨b, off, e1, hlt, hc⟩ := h1 hm
  exact ⟨b, off, e1, Nat.lt_of_lt_of_le hlt hb.size, fun i p hi => (hb.cell (p := ⟨b, off + i, none⟩) hlt).trans (hc i p hi)⟩
section
variable {H : Type} {enc : TypeId × Value → H} {w : World} {base : Nat} {held : Bool}
set_option maxRecDepth 100000 in
theorem read_nums {r : Reach} {b0 : Nat} {d : DataW H} {p : List MemPlace} {v : Value}
    (hv : Value.okWide Tryz.prog w r b0 28 v) (h : DataW.Trod enc Tryz.prog w base (fun _ => true) held 28 v d p) : ∃ l : List Int, NmIn w v l := by
  obtain ⟨fuel, hf⟩ := h
  obtain ⟨a0, len0, cap0, rfl⟩ := okWide_slice Tryz.underlying28 hv
  have hf' : DataW.trod enc Tryz.prog w base (fun _ => true) held fuel 28 [.slice a0 len0 cap0] = some (d, p) := hf
  obtain ⟨a, len, cap, hve, h1, h2, _, _, L, hL, hat⟩ := rows_trod (C := 1) Tryz.underlying28 (by kernel_rfl) (by omega) hf'
  rw [hve]
  have him : ∀ i, ∃ mm : Int, i < len → L i = [.int .i64 mm] ∧ in64 mm := by
    intro i
    by_cases hi : i < len
    · obtain ⟨hlen, n, y, ht⟩ := hL i hi
      match hq : L i, hlen with
      | [u], _ =>
        rw [hq] at ht
        obtain ⟨s, hs, _, hz⟩ := DataW.trod_int Tryz.underlying3 ht
        exact ⟨s, fun _ => ⟨by simpa using hs, int_in hz⟩⟩
    · exact ⟨0, fun h => absurd h hi⟩
  have hll : ((List.range len).map fun i => (him i).choose).length = len := by simp
  refine ⟨(List.range len).map fun i => (him i).choose, ⟨a, cap, by rw [hll], fun h0 => ?_⟩, by rw [hll]; omega, fun i hi => ?_⟩
  · rw [hll] at h0
    obtain ⟨b, off, e1, hlt, hc⟩ := hat h0
    refine ⟨b, off, e1, hlt, fun i p hi => ?_⟩
    have hil : i < len := by have := (List.getElem?_eq_some_iff.1 hi).1; rwa [hll] at this
    rw [List.getElem?_map, List.getElem?_range hil] at hi
    simp at hi
    subst hi
    have := hc i 0 (.int .i64 (him i).choose) hil (congrArg (fun l : List Value => l[0]?) ((him i).choose_spec hil).1)
    simpa using this
  · obtain ⟨k, hk, rfl⟩ := List.mem_map.1 hi
    exact ((him k).choose_spec (List.mem_range.1 hk)).2
end
def D5 (n : Int) (d : ByteArray) : Do := setD (fun _ => none) n (some d)
theorem D5_at (n : Int) (d : ByteArray) : D5 n d n = some d := if_pos rfl
theorem D5_set (n : Int) (d : ByteArray) (o : ByteArray) : setD (D5 n d) n (some o) = D5 n o := by
  funext k
  unfold D5 setD
  by_cases e : k = n
  · rw [if_pos e, if_pos e]
  · rw [if_neg e, if_neg e, if_neg e]
theorem D5_sz {n : Int} {d : ByteArray} (h : d.size ≤ 4096) : ∀ k x, D5 n d k = some x → x.size ≤ 4096 := fun k x hx => by
  unfold D5 setD at hx
  by_cases e : k = n
  · rw [if_pos e] at hx; injection hx with hx; rw [← hx]; exact h
  · rw [if_neg e] at hx; cases hx
theorem wr_long {D : Do} {num : Int} {d val : ByteArray} (hok : okN num) (hd : D num = some d) (hv : 64 < val.size) : wrD D num d.size val = (2, none) := by
  obtain ⟨e1, e2⟩ := er_yes hok hd
  unfold wrD
  rw [if_neg (not_not_intro e1), e2, if_neg (by omega), if_pos (.inl hv)]
theorem ext_app (d : ByteArray) (a n : Nat) : d.extract 0 a ++ d.extract a (a + n) = d.extract 0 (a + n) := by
  refine ba_list ?_
  rw [ByteArray.data_append, Array.toList_append, ext_list, ext_list, ext_list, List.drop_zero, List.drop_zero]
  have h1 := List.take_append_drop a (d.data.toList.take (a + n))
  rw [List.take_take, Nat.min_eq_left (by omega)] at h1
  exact h1
theorem ext_all (d : ByteArray) : d.extract 0 d.size = d := by
  refine ba_list ?_
  rw [ext_list, List.drop_zero]
  have hl : d.data.toList.length = d.size := by rw [Array.length_toList]; rfl
  exact List.take_of_length_le (by omega)
/-- A new object, made in a new volume. -/
theorem new_land {w : World} {B g b gs r M : Nat} {m : Nat} (h : Od w B g b gs r M (fun _ => none) m) (num : Int) (hok : okN num) (v : Value) (base : Nat) (ho : StOwn w base v num (stepL (pcO none) (pcO (some ⟨#[]⟩)) (max (pcO none).length (pcO (some ⟨#[]⟩)).length))) (hbase : b < base) (hM : M + 10240 < 1000000) (hm : m + 1 ≤ 500) :
    Calls Tryz.prog 16 #[.pointer (some ⟨g, 0, none⟩), v] w fun e w' => e = .returned (.bool true) ∧ Od w' B g b gs r (M + 10240) (D5 num ⟨#[]⟩) (m + 1) ∧ w.grownBy w' (some b) :=
  ch_land h num hok (some ⟨#[]⟩) (fun d hd => by injection hd with hd; rw [← hd]; decide) v base ho hbase hM 1 (by show (cutB ⟨#[]⟩).length ≤ _; rw [cut_empty]; exact Nat.le_add_left 1 _) hm
end Go.Proofs.YtaiiimlmkigajaaGreat
namespace Go.Proofs.YtaiiimlmkigajaaGreat
open Go.RowKit Go.Maps Go.ChangeShapes Go.WideShapes Go.ChangeAt Go.Deep

/-- What an operation on an object answers, and leaves of it. -/
def opD (D : Do) (o : Opn) : Int × Option ByteArray :=
  if o.k = 18 then newD D o.num else if o.k = 21 then wrD D o.num o.at_ o.val else if o.k = 22 then cutD D o.num o.len else delD D o.num
theorem opD_ok {D : Do} (hs : ∀ n d, D n = some d → d.size ≤ 4096) (o : Opn) (h : (opD D o).1 = 0) : okN o.num ∧ (∀ d, (opD D o).2 = some d → d.size ≤ 4096) ∧ (pcO (opD D o).2).length ≤ (pcO (D o.num)).length + 4 := by
  unfold opD at h ⊢
  by_cases c1 : o.k = 18
  · rw [if_pos c1] at h ⊢
    unfold newD at h ⊢
    by_cases hn : okN o.num
    · rw [if_neg (not_not_intro hn)] at h ⊢
      cases hd : D o.num with
      | some d => rw [hd] at h; exact absurd (show (160 : Int) = 0 from h) (by decide)
      | none =>
        refine ⟨hn, fun d h => by injection h with h; rw [← h]; decide, ?_⟩
        show (cutB ⟨#[]⟩).length ≤ _
        rw [cut_empty]; exact Nat.le_trans (by decide : 1 ≤ 4) (Nat.le_add_left _ _)
    · rw [if_pos hn] at h; exact absurd h (by decide)
  rw [if_neg c1] at h ⊢
  by_cases c2 : o.k = 21
  · rw [if_pos c2] at h ⊢
    obtain ⟨h1, h2, d', h3, h4, h5⟩ := wrD_zero h hs
    rw [h3, h2]
    exact ⟨h1, fun d hd => by injection hd with hd; rw [← hd]; exact h4, pcO_grow h5⟩
  rw [if_neg c2] at h ⊢
  by_cases c3 : o.k = 22
  · rw [if_pos c3] at h ⊢
    unfold cutD at h ⊢
    by_cases c0 : erD D o.num = 0
    · obtain ⟨h1, h2⟩ := erD_zero c0
      have hz := hs _ _ h2
      rw [if_neg (not_not_intro c0)] at h ⊢
      by_cases c4 : o.len < 0 ∨ ((dtD D o.num).size : Int) < o.len
      · rw [if_pos c4] at h; exact absurd h (by decide)
      · rw [if_neg c4]
        refine ⟨h1, fun d hd => ?_, ?_⟩
        · injection hd with hd
          rw [← hd, ByteArray.size_extract]; omega
        · rw [h2]
          exact pcO_grow (by rw [ByteArray.size_extract]; omega)
    · rw [if_pos c0] at h; exact absurd h c0
  rw [if_neg c3] at h ⊢
  unfold delD at h ⊢
  obtain ⟨h1, -⟩ := erD_zero h
  exact ⟨h1, fun d hd => (by cases hd), Nat.zero_le _⟩
section
variable {ops : Array Oper} {rest : List Oper} {o : Oper} {a : Act} {w : World} {Q : Exit → Act → World → Prop}
def Opn.zero : Opn := ⟨0, 0, ⟨#[]⟩, ⟨#[]⟩, 0, 0, 0⟩
theorem opn_len (p : Opn) : p.cs.toList.length = 7 := rfl
theorem load_op_off (hgd : o.guard = none) (x : Operand) (ho : o.op = .load 33 x) (g off : Nat) (i : Nat) (p : Opn) (hx : a.eval x = .pointer (some ⟨g, off + i * 7, none⟩)) (hr : w.rangeAt g (off + i * 7) p.cs.toList)
    (h : wpList Tryz.prog ops Q rest (a.put o.dst (.agg p.cs)) w) : wpList Tryz.prog ops Q (o :: rest) a w :=
  wpList_load_mid hgd 33 x ho g (off + i * 7) hx p.cs.toList _ hr Tryz.underlying33 rfl (by rw [opn_len]; kernel_rfl) (by simpa using h)
theorem load_op (hgd : o.guard = none) (x : Operand) (ho : o.op = .load 33 x) (g : Nat) (p : Opn) (hx : a.eval x = .pointer (some ⟨g, 0, none⟩)) (hb : Bk w g 33 p.cs)
    (h : wpList Tryz.prog ops Q rest (a.put o.dst (.agg p.cs)) w) : wpList Tryz.prog ops Q (o :: rest) a w :=
  wpList_load_mid hgd 33 x ho g 0 hx p.cs.toList _ (fun j v hv => by rw [Nat.zero_add, hb.cell]; simpa using hv) Tryz.underlying33 rfl (by rw [opn_len]; kernel_rfl) (by simpa using h)
theorem store_op_new (hgd : o.guard = none) (hd : o.dst = none) (x y : Operand) (ho : o.op = .store 33 x y) (i : Opn)
    (hx : a.eval x = .pointer (some ⟨w.heap.size, 0, none⟩)) (hy : a.eval y = .agg i.cs) (h : wpList Tryz.prog ops Q rest a (w.alloc (.cells i.cs 33))) : wpList Tryz.prog ops Q (o :: rest) a (w.alloc (.cells Opn.zero.cs 33)) := by
  refine wpList_store_row hgd 33 x y ho w.heap.size i.cs hx hy 33 Opn.zero.cs (Bk.new _ _ _) (by rw [show i.cs.size = 7 from rfl]; kernel_rfl) rfl (by simp [Opn.cs, Value.oneCell']) ?_
  rw [World.setRow_alloc_new, hd]
  exact h
end
set_option maxRecDepth 100000 in
set_option maxHeartbeats 8000000 in
theorem steps17 {w : World} {B g b gs r M : Nat} {D : Do} {m : Nat} (h : Od w B g b gs r M D m) (o : Opn) (hok : OpOk o) :
    Calls Tryz.prog 10 #[.pointer (some ⟨g, 0, none⟩), .agg o.cs] w (ChD w D o.num (opD D o)) := by
  have hb : Below w.heap.size w (w.alloc (.cells o.cs 33)) := (Below.refl _ _).alloc (Nat.le_refl _) _
  have V1 := Lib.hid (h.kept hb)
  have K1 := Lib.hid (Bk.new w 33 o.cs)
  have B1 := Lib.hid hb
  have OK := Lib.hid hok
  have LIFT := Lib.hid (show ∀ (x : Int × Option ByteArray) (e : Ending) (w' : World), opD D o = x → ChD (w.alloc (.cells o.cs 33)) D o.num x e w' → ChD w D o.num (opD D o) e w' from fun x e w' hx hc => by
    rw [hx]
    obtain ⟨v, h1, h2, h3, h4⟩ := hc
    exact ⟨v, h1, h2, fun h0 => ⟨(h3 h0).1, ow_mono (h3 h0).2 hb.size⟩, below_then hb h4 hb.size⟩)
  clear h hok hb
  have IO := Lib.hid (show (Value.agg o.cs) = .agg #[.int .i64 o.k, .int .i64 o.st, .string o.key, .string o.val, .int .i64 o.num, .int .i64 o.at_, .int .i64 o.len] from rfl)
  go_enter Tryz.func10, Tryz.ntmps10
  go_upto_region 1 with fail
  change Code.wp _ _ _ _ (w.alloc (.cells o.cs 33))
  obtain ⟨G, hG⟩ : ∃ G, G = w.heap.size := ⟨_, rfl⟩
  rw [← hG] at K1
  rw [← hG]
  clear hG B1
  generalize w.alloc (.cells o.cs 33) = w1 at *
  have x0 : w1.cell? ⟨G, 0, none⟩ = some (.int .i64 o.k) := K1.out.cell 0
  have x3 : w1.cell? ⟨G, 3, none⟩ = some (.string o.val) := K1.out.cell 3
  have x4 : w1.cell? ⟨G, 4, none⟩ = some (.int .i64 o.num) := K1.out.cell 4
  have x5 : w1.cell? ⟨G, 5, none⟩ = some (.int .i64 o.at_) := K1.out.cell 5
  have x6 : w1.cell? ⟨G, 6, none⟩ = some (.int .i64 o.len) := K1.out.cell 6
  have CN := Lib.hid (bnew_any V1.out o.num)
  have CW := Lib.hid (bwrite_any V1.out o.num o.at_ o.val OK.out.val)
  have CC := Lib.hid (bcut_any V1.out o.num o.len)
  have CD := Lib.hid (bdel_any V1.out o.num)
  obtain ⟨kk, hkk⟩ : ∃ kk, kk = o.k := ⟨_, rfl⟩
  rw [← hkk] at x0
  by_cases c1 : kk = 18
  · subst c1
    have E := Lib.hid (show opD D o = newD D o.num by unfold opD; rw [if_pos hkk.symm])
    clear hkk
    as_aux_lemma =>
      go_wp2_with fail
      refine CN.out.mono ?_
      rintro e w2 hc
      have F1 := LIFT.out _ e w2 E.out hc
      obtain ⟨v, rfl, -⟩ := hc
      have F2 := Lib.hid F1
      clear F1 LIFT CN CW CC CD V1
      go_wp2
      refine bodyPost_ret (v := .tuple #[v, .int .i64 (newD D o.num).1]) (by simp [results, Tryz.results10, go_sem]) rfl ?_
      exact F2.out
  have c1b : (kk == 18) = false := by simp [c1]
  by_cases c2 : kk = 21
  · subst c2
    have E := Lib.hid (show opD D o = wrD D o.num o.at_ o.val by unfold opD; rw [← hkk]; rfl)
    clear hkk c1
    as_aux_lemma =>
      go_wp2_with fail
      refine CW.out.mono ?_
      rintro e w2 hc
      have F1 := LIFT.out _ e w2 E.out hc
      obtain ⟨v, rfl, -⟩ := hc
      have F2 := Lib.hid F1
      clear F1 LIFT CN CW CC CD V1
      go_wp2
      refine bodyPost_ret (v := .tuple #[v, .int .i64 (wrD D o.num o.at_ o.val).1]) (by simp [results, Tryz.results10, go_sem]) rfl ?_
      exact F2.out
  have c2b : (kk == 21) = false := by simp [c2]
  by_cases c3 : kk = 22
  · subst c3
    have E := Lib.hid (show opD D o = cutD D o.num o.len by unfold opD; rw [← hkk]; rfl)
    clear hkk c1 c2
    as_aux_lemma =>
      go_wp2_with fail
      refine CC.out.mono ?_
      rintro e w2 hc
      have F1 := LIFT.out _ e w2 E.out hc
      obtain ⟨v, rfl, -⟩ := hc
      have F2 := Lib.hid F1
      clear F1 LIFT CN CW CC CD V1
      go_wp2
      refine bodyPost_ret (v := .tuple #[v, .int .i64 (cutD D o.num o.len).1]) (by simp [results, Tryz.results10, go_sem]) rfl ?_
      exact F2.out
  have c3b : (kk == 22) = false := by simp [c3]
  have E := Lib.hid (show opD D o = delD D o.num by unfold opD; rw [if_neg (by rw [← hkk]; exact c1), if_neg (by rw [← hkk]; exact c2), if_neg (by rw [← hkk]; exact c3)])
  clear hkk
  as_aux_lemma =>
    go_wp2_with fail
    refine CD.out.mono ?_
    rintro e w2 hc
    have F1 := LIFT.out _ e w2 E.out hc
    obtain ⟨v, rfl, -⟩ := hc
    have F2 := Lib.hid F1
    clear F1 LIFT CN CW CC CD V1
    go_wp2
    refine bodyPost_ret (v := .tuple #[v, .int .i64 (delD D o.num).1]) (by simp [results, Tryz.results10, go_sem]) rfl ?_
    exact F2.out
theorem setD_ne {D : Do} {n k : Int} {o : Option ByteArray} (h : k ≠ n) : setD D n o k = D k := if_neg h
theorem rd_all {D : Do} {num : Int} {d : ByteArray} (hok : okN num) (hd : D num = some d) : rdD D num 0 d.size = (d, 0) := by
  have h := rd_part hok hd 0 d.size (by omega)
  rw [show ((0 : Nat) : Int) = 0 from rfl] at h
  rw [h, Nat.zero_add, ext_all]
theorem wr_first {num : Int} {val : ByteArray} (hok : okN num) (hv : val.size ≤ 64) : wrD (D5 num ⟨#[]⟩) num 0 val = (0, some val) := by
  have h := wr_end (val := val) hok (D5_at num ⟨#[]⟩) hv (by show 0 + val.size ≤ 4096; omega)
  rw [show (((⟨#[]⟩ : ByteArray).size : Nat) : Int) = 0 from rfl] at h
  rw [h]
  congr 2
/-- Is an operation passed over? -/
def skipO (o : Opn) : Bool := decide (o.num = 500) || !(decide (o.k = 18) || decide (o.k = 21) || decide (o.k = 22) || decide (o.k = 23))
end Go.Proofs.YtaiiimlmkigajaaGreat
namespace Go.Proofs.YtaiiimlmkigajaaGreat
open Go.RowKit Go.Maps Go.ChangeShapes Go.WideShapes Go.ChangeAt Go.Deep

section
variable {ops : Array Oper} {rest : List Oper} {o : Oper} {a : Act} {w : World} {Q : Exit → Act → World → Prop}
theorem load_lst_off (hgd : o.guard = none) (x : Operand) (ho : o.op = .load 52 x) (g i : Nat) (num : Int) (s : St) (hx : a.eval x = .pointer (some ⟨g, i * 3, none⟩)) (hr : w.rangeAt g (i * 3) (stC num s).toList)
    (h : wpList Tryz.prog ops Q rest (a.put o.dst (.agg (stC num s))) w) : wpList Tryz.prog ops Q (o :: rest) a w :=
  wpList_load_mid hgd 52 x ho g (i * 3) hx (stC num s).toList _ hr Tryz.underlying52 rfl (by rw [show (stC num s).toList.length = 3 from rfl]; kernel_rfl) (by simpa using h)
theorem store_lst_new (hgd : o.guard = none) (hd : o.dst = none) (x y : Operand) (ho : o.op = .store 52 x y) (num : Int) (s : St)
    (hx : a.eval x = .pointer (some ⟨w.heap.size, 0, none⟩)) (hy : a.eval y = .agg (stC num s)) (h : wpList Tryz.prog ops Q rest a (w.alloc (.cells (stC num s) 52))) : wpList Tryz.prog ops Q (o :: rest) a (w.alloc (.cells #[.int .i64 0, .string ⟨#[]⟩, .string ⟨#[]⟩] 52)) := by
  refine wpList_store_row hgd 52 x y ho w.heap.size (stC num s) hx hy 52 #[.int .i64 0, .string ⟨#[]⟩, .string ⟨#[]⟩] (Bk.new _ _ _) (by rw [show (stC num s).size = 3 from rfl]; kernel_rfl) rfl (by simp [stC, Value.oneCell']) ?_
  rw [World.setRow_alloc_new, hd]
  exact h
end
theorem stepL_v (frm tos : List ByteArray) (h16 : ∀ v, v ∈ tos → v.size ≤ 16) : ∀ n s, s ∈ stepL frm tos n → s.val.size ≤ 16 ∧ (s.k = 16 → s.val = ⟨#[]⟩)
  | 0, s, h => by cases h
  | n + 1, s, h => by
    rw [stepL_succ] at h
    rcases List.mem_append.1 h with h | h
    · exact stepL_v frm tos h16 n s h
    · unfold stepAt at h
      by_cases c1 : tos.length ≤ n
      · rw [if_pos c1] at h; rw [List.mem_singleton.1 h]; exact ⟨Nat.zero_le _, fun _ => rfl⟩
      rw [if_neg c1] at h
      have m16 : (tos.getD n ⟨#[]⟩).size ≤ 16 := h16 _ (by rw [List.getD_eq_getElem?_getD, List.getElem?_eq_getElem (by omega)]; exact List.getElem_mem _)
      by_cases c2 : frm.length ≤ n
      · rw [if_pos c2] at h; rw [List.mem_singleton.1 h]; exact ⟨m16, fun h => absurd (show (13 : Int) = 16 from h) (by decide)⟩
      rw [if_neg c2] at h
      by_cases c3 : frm.getD n ⟨#[]⟩ = tos.getD n ⟨#[]⟩
      · rw [if_pos c3] at h; cases h
      · rw [if_neg c3] at h; rw [List.mem_singleton.1 h]; exact ⟨m16, fun h => absurd (show (15 : Int) = 16 from h) (by decide)⟩
theorem key2 (i : Int) : (lkey 9 i).extract 0 2 = ⟨#[0, 9]⟩ := by
  refine ba_list ?_
  rw [ext_list]
  rfl
theorem key_num (i : Nat) (hi : i < 65536) {K : ByteArray} (hK : K = lkey 9 i) (h2 : 2 < K.size) (h3 : 3 < K.size) : wrap64 (wrap64 (wrap64 ((K[2]'h2).toNat : Int) * 256) + wrap64 ((K[3]'h3).toNat : Int)) = (i : Int) := by
  subst hK
  have e2 : ((lkey 9 (i : Int))[2]'h2).toNat = (((i : Int) / 256) % 256).toNat := by8_nat _
  have e3 : ((lkey 9 (i : Int))[3]'h3).toNat = ((i : Int) % 256).toNat := by8_nat _
  rw [e2, e3]
  unfold wrap64
  omega
theorem Lo.row_ne {w : World} {B g b gs r M : Nat} {F : Fo} {m : Nat} (h : Lo w B g b gs r M F m) {k : Nat} {t : TypeId} {cs : Array Value} (hk : Bk w k t cs) (h1 : t ≠ 95) (h2 : t ≠ 90) (h3 : k < B) : k ≠ g ∧ k ≠ b ∧ k ≠ gs ∧ k ≠ r := by
  obtain ⟨und, pg, H, ow, lf, ids, kd, R, hs, -⟩ := h.ex
  exact hs.row_ne hk h1 h2 (by have := hs.r_ge; omega)
/-- The steps from one on are for pieces behind a piece. -/
def Rise (ss : List St) (t : Nat) (ls : Int) : Prop := ∀ s, ss[t]? = some s → ls < s.i
theorem Rise.next {ss : List St} (hp : ss.Pairwise fun a b => a.i < b.i) {t : Nat} {s : St} (hs : ss[t]? = some s) : Rise ss (t + 1) s.i := fun s' hs' => by
  obtain ⟨h1, e1⟩ := List.getElem?_eq_some_iff.1 hs
  obtain ⟨h2, e2⟩ := List.getElem?_eq_some_iff.1 hs'
  have := List.pairwise_iff_getElem.1 hp t (t + 1) h1 h2 (Nat.lt_succ_self t)
  rw [e1, e2] at this
  omega
end Go.Proofs.YtaiiimlmkigajaaGreat
namespace Go.Proofs.YtaiiimlmkigajaaGreat
open Go.RowKit Go.Maps Go.ChangeShapes Go.WideShapes Go.ChangeAt Go.Deep

/-- The pieces of all objects. -/
def allK (D : Do) : List Kv := flat 1000 fun n => rowsK (n : Int) (pcO (D n)) 0
theorem rowsK_mem {num : Int} {l : List ByteArray} {x : Kv} : x ∈ rowsK num l 0 ↔ ∃ t, t < l.length ∧ x = (lkey num (t : Int), l.getD t ⟨#[]⟩) := by
  unfold rowsK
  rw [List.mem_map]
  constructor
  · rintro ⟨t, ht, rfl⟩
    exact ⟨t, by have := List.mem_range.1 ht; omega, by rw [Nat.zero_add]⟩
  · rintro ⟨t, ht, rfl⟩
    exact ⟨t, List.mem_range.2 (by omega), by rw [Nat.zero_add]⟩
theorem rowsK_len (num : Int) (l : List ByteArray) : (rowsK num l 0).length = l.length := by unfold rowsK; simp
theorem all_rows {R : List (ByteArray × Ce)} {D : Do} (hs : R.Pairwise fun x y => kL x.1 y.1) (hk : ∀ x, x ∈ R → x.2.key = x.1) (hA : Ab R (fo D)) (hz : ∀ n d, D n = some d → d.size ≤ 4096) : kvOf R = allK D := by
  have ln : ∀ n : Int, (pcO (D n)).length ≤ 256 := fun n => pcO_len (D n) (fun d hd => hz n d hd)
  have srt : (kvOf R).Pairwise fun x y => kL x.1 y.1 := by
    unfold kvOf
    rw [List.pairwise_map]
    refine List.Pairwise.imp_of_mem (fun {a b} ha hb h => ?_) (List.Pairwise.filter _ hs)
    have ha := (List.mem_filter.1 ha).1
    have hb := (List.mem_filter.1 hb).1
    show kL a.2.key b.2.key
    rw [hk a ha, hk b hb]
    exact h
  refine pw_ext (r := fun x y : Kv => kL x.1 y.1) (fun a => kOrd.irr _) (fun a b c => kOrd.tr _ _ _) _ _ srt ?_ ?_
  · refine flat_pairwise (fun n hn => ?_) (fun n m hnm hm x hx y hy => ?_)
    · unfold rowsK
      rw [List.pairwise_map]
      refine (List.pairwise_lt_range (n := (pcO (D n)).length - 0)).imp_of_mem ?_
      intro q r hq hr hqr
      have hr := List.mem_range.1 hr
      have := ln n
      exact (lkey_less (n := (n : Int)) (m := (n : Int)) ⟨by omega, by omega, by omega⟩ ⟨by omega, by omega, by omega⟩).2 (.inr ⟨rfl, by omega⟩)
    · obtain ⟨t, ht, rfl⟩ := rowsK_mem.1 hx
      obtain ⟨u, hu, rfl⟩ := rowsK_mem.1 hy
      have := ln n; have := ln m
      exact (lkey_less (n := (n : Int)) (m := (m : Int)) ⟨by omega, by omega, by omega⟩ ⟨by omega, by omega, by omega⟩).2 (.inl (by omega))
  · intro x
    unfold allK
    rw [flat_mem]
    unfold kvOf
    rw [List.mem_map]
    constructor
    · rintro ⟨y, hy, rfl⟩
      obtain ⟨h1, h2⟩ := List.mem_filter.1 hy
      have h2 : y.2.st = 1 := by simpa using h2
      obtain ⟨n, i, hi, e⟩ := hA.only y h1 h2
      obtain ⟨l1, l2⟩ := hA.at_ n i hi
      obtain ⟨m, rfl⟩ := Int.eq_ofNat_of_zero_le hi.1
      refine ⟨m, by have := hi.2.1; omega, rowsK_mem.2 ⟨i, ?_, ?_⟩⟩
      · refine Nat.lt_of_not_le fun hc => l2 (List.getElem?_eq_none hc) y.2 ?_ h2
        rw [← e]; exact h1
      · have hlt : i < (pcO (D m)).length := Nat.lt_of_not_le fun hc => l2 (List.getElem?_eq_none hc) y.2 (by rw [← e]; exact h1) h2
        obtain ⟨c, g1, g2, g3⟩ := l1 _ (List.getElem?_eq_getElem hlt)
        have : y.2 = c := rows_one kOrd hs (k := y.1) h1 (by rw [e]; exact g1)
        refine Prod.ext ?_ ?_
        · show y.2.key = _
          rw [hk y h1, e]
        · show y.2.rst = (pcO (D m)).getD i ⟨#[]⟩
          rw [this, g3, List.getD_eq_getElem?_getD, List.getElem?_eq_getElem hlt]; rfl
    · rintro ⟨n, hn, hx⟩
      obtain ⟨t, ht, rfl⟩ := rowsK_mem.1 hx
      have := ln n
      obtain ⟨c, g1, g2, g3⟩ := (hA.at_ n t ⟨by omega, by omega, by omega⟩).1 _ (List.getElem?_eq_getElem ht)
      refine ⟨(lkey n t, c), List.mem_filter.2 ⟨g1, by simpa using g2⟩, ?_⟩
      refine Prod.ext ?_ ?_
      · show c.key = _
        exact hk _ g1
      · show c.rst = (pcO (D n)).getD t ⟨#[]⟩
        rw [g3, List.getD_eq_getElem?_getD, List.getElem?_eq_getElem ht]; rfl
theorem kv_from2 {R : List (ByteArray × Ce)} (hk : ∀ x, x ∈ R → x.2.key = x.1) (k : ByteArray) : kvOf (fromR R k) = (kvOf R).filter fun p => !slt p.1 k := by
  unfold kvOf fromR
  rw [List.filter_map, List.filter_filter, List.filter_filter]
  congr 1
  refine List.filter_congr fun x hx => ?_
  show (decide (x.2.st = 1) && !slt x.1 k) = ((!slt x.2.key k) && decide (x.2.st = 1))
  rw [hk x hx, Bool.and_comm]
theorem filter_drop2 {l : List Kv} (hs : l.Pairwise fun x y => kL x.1 y.1) {t : Nat} {p : Kv} (hp : l[t]? = some p) : (l.filter fun q => !slt q.1 p.1) = l.drop t := by
  induction l generalizing t with
  | nil => simp at hp
  | cons a l ih =>
    obtain ⟨h1, h2⟩ := List.pairwise_cons.1 hs
    cases t with
    | zero =>
      simp at hp; subst hp
      rw [List.drop_zero]
      refine List.filter_eq_self.2 fun x hx => ?_
      rcases List.mem_cons.1 hx with rfl | hx
      · simp [slt_irrefl]
      · have := h1 x hx
        have h3 : slt x.1 a.1 = false := slt_asymm this
        simp [h3]
    | succ t =>
      simp at hp
      have hm := List.mem_of_getElem? hp
      have h3 : slt a.1 p.1 = true := h1 p hm
      rw [List.filter_cons, if_neg (by simp [h3]), ih h2 hp]
      rfl
/-- The number in a key. -/
def numK (k : ByteArray) : Int := ((k.data.getD 0 0).toNat : Int) * 256 + ((k.data.getD 1 0).toNat : Int)
theorem numK_lkey {n : Int} (hn : 0 ≤ n ∧ n < 1000) (i : Int) : numK (lkey n i) = n := by
  have e2 : (((lkey n i).data.getD 0 0).toNat) = ((n / 256) % 256).toNat := by8_nat _
  have e3 : (((lkey n i).data.getD 1 0).toNat) = (n % 256).toNat := by8_nat _
  unfold numK
  rw [e2, e3]
  omega
abbrev Ob := Int × ByteArray
/-- What a piece adds to a listing. -/
def addF (acc : List Ob) (p : Kv) : List Ob :=
  if p.1 = lkey (numK p.1) 0 then acc ++ [(numK p.1, p.2)] else match acc.getLast? with
    | some (n, d) => if n = numK p.1 then acc.dropLast ++ [(n, d ++ p.2)] else acc
    | none => acc
/-- The objects, by their numbers. -/
def objsL (D : Do) : List Ob := (List.range 1000).filterMap fun n : Nat => (D (n : Int)).map fun d => ((n : Int), d)
theorem add_first (acc : List Ob) {n : Int} (hn : 0 ≤ n ∧ n < 1000) (v : ByteArray) : addF acc (lkey n 0, v) = acc ++ [(n, v)] := by
  unfold addF
  rw [numK_lkey hn, if_pos rfl]
theorem add_more (acc : List Ob) {n : Int} (hn : 0 ≤ n ∧ n < 1000) (d v : ByteArray) {i : Nat} (hi : 0 < i ∧ i < 65536) : addF (acc ++ [(n, d)]) (lkey n i, v) = acc ++ [(n, d ++ v)] := by
  unfold addF
  rw [numK_lkey hn, if_neg (fun e => by
    have := lkey_inN (n := n) (m := n) (p := i) (q := 0) ⟨hn.1, hn.2, hi.2⟩ ⟨hn.1, hn.2, by decide⟩ e
    omega)]
  simp
theorem acc_object (acc : List Ob) {n : Int} (hn : 0 ≤ n ∧ n < 1000) (d : ByteArray) (hd : d.size ≤ 4096) : (rowsK n (cutB d) 0).foldl addF acc = acc ++ [(n, d)] := by
  have pl : pieceN d ≤ 256 := by unfold pieceN; omega
  have pp : 1 ≤ pieceN d := by unfold pieceN; omega
  have er : rowsK n (cutB d) 0 = (List.range (pieceN d)).map fun t : Nat => (lkey n (t : Int), pieceB d t) := by
    unfold rowsK
    rw [cutB_len, Nat.sub_zero]
    refine List.map_congr_left fun t ht => ?_
    have ht := List.mem_range.1 ht
    rw [Nat.zero_add]
    refine Prod.ext rfl ?_
    show (cutB d).getD t ⟨#[]⟩ = pieceB d t
    unfold cutB
    rw [List.getD_eq_getElem?_getD, List.getElem?_map, List.getElem?_range ht]
    rfl
  have main : ∀ q, 1 ≤ q → q ≤ pieceN d → (((List.range q).map fun t : Nat => ((lkey n (t : Int), pieceB d t) : Kv)).foldl addF acc) = acc ++ [(n, d.extract 0 (q * 16))] := by
    intro q
    induction q with
    | zero => intro h; omega
    | succ q ih =>
      intro _ hq
      rw [List.range_succ, List.map_append, List.foldl_append]
      rcases Nat.eq_zero_or_pos q with rfl | h0
      · show addF acc (lkey n ((0 : Nat) : Int), pieceB d 0) = _
        rw [show ((0 : Nat) : Int) = 0 from rfl, add_first acc hn]
        rfl
      · rw [ih h0 (by omega)]
        show addF (acc ++ [(n, d.extract 0 (q * 16))]) (lkey n (q : Int), pieceB d q) = _
        rw [add_more acc hn _ _ ⟨h0, by omega⟩]
        unfold pieceB
        rw [ext_app, show q * 16 + 16 = (q + 1) * 16 by omega]
  rw [er, main _ pp (Nat.le_refl _)]
  congr 2
  refine Prod.ext rfl ?_
  show d.extract 0 (pieceN d * 16) = d
  refine ba_list ?_
  rw [ext_list, List.drop_zero]
  have hl : d.data.toList.length = d.size := by rw [Array.length_toList]; rfl
  exact List.take_of_length_le (by unfold pieceN; omega)
/-- A listing of all pieces is the objects. -/
theorem acc_all (D : Do) (hz : ∀ n d, D n = some d → d.size ≤ 4096) : (allK D).foldl addF [] = objsL D := by
  have main : ∀ m, m ≤ 1000 → (flat m fun n => rowsK (n : Int) (pcO (D n)) 0).foldl addF [] = (List.range m).filterMap fun n : Nat => (D (n : Int)).map fun d => ((n : Int), d) := by
    intro m
    induction m with
    | zero => intro _; rfl
    | succ m ih =>
      intro hm
      rw [flat_succ, List.foldl_append, ih (by omega), List.range_succ, List.filterMap_append]
      cases hd : D (m : Int) with
      | none =>
        show (rowsK (m : Int) [] 0).foldl addF _ = _
        rw [List.filterMap_cons_none (by rw [hd]; rfl)]
        simp [rowsK]
      | some d =>
        show (rowsK (m : Int) (cutB d) 0).foldl addF _ = _
        rw [acc_object _ ⟨by omega, by omega⟩ d (hz _ d hd), List.filterMap_cons_some (by rw [hd]; rfl)]
        rfl
  exact main 1000 (Nat.le_refl _)
end Go.Proofs.YtaiiimlmkigajaaGreat
namespace Go.Proofs.YtaiiimlmkigajaaGreat
open Go.RowKit Go.Maps Go.ChangeShapes Go.WideShapes Go.ChangeAt Go.Deep

def nmL (l : List Int) : List Value := l.map (.int .i64)
/-- The reference's objects: two rows. -/
structure Rf (w : World) (G : Nat) (l : List Ob) : Prop where
  ex : ∃ nv bv, Bk w G 31 #[nv, bv] ∧ w.ownsRow (G + 1) 3 1 nv l.length (nmL (l.map (·.1))) ∧ w.ownsRow (G + 1) 9 1 bv l.length (txL (l.map (·.2)))
  len : l.length ≤ 1000
  sz : ∀ x, x ∈ l → x.2.size ≤ 4096
theorem Rf.kept {w w' : World} {G : Nat} {l : List Ob} (h : Rf w G l) (hb : Below w.heap.size w w') : Rf w' G l := by
  obtain ⟨nv, bv, h1, h2, h3⟩ := h.ex
  exact ⟨⟨nv, bv, h1.kept hb, ow_kept h2 hb, ow_kept h3 hb⟩, h.len, h.sz⟩
theorem Rf.grown {w w' : World} {G : Nat} {l : List Ob} (h : Rf w G l) {b : Nat} (hg : w.grownBy w' (some b)) (hb : b < G) : Rf w' G l := by
  obtain ⟨nv, bv, h1, h2, h3⟩ := h.ex
  exact ⟨⟨nv, bv, h1.grown hg (fun e => by injection e with e; omega), ow_grown h2 hg (fun k hk => by cases hk; omega), ow_grown h3 hg (fun k hk => by cases hk; omega)⟩, h.len, h.sz⟩
theorem row_cell {w : World} {base n : Nat} {t : TypeId} {v : Value} {xs : List Value} (h : w.ownsRow base t 1 v n xs) {i : Nat} {u : Value} (hi : xs[i]? = some u) (hn : i < n) : ∃ g c, v = .slice (some ⟨g, 0, none⟩) n c ∧ w.cell? ⟨g, i, none⟩ = some u := by
  obtain ⟨g, cap, hv, h1, h2⟩ := World.ownsRow.form h (by omega)
  subst hv
  have := World.ownsRow.cells h (g := g) rfl i u hi
  rw [Addr.add_lit, Nat.zero_add] at this
  exact ⟨g, cap, rfl, this⟩
def FiP (w : World) (l : List Ob) (num : Int) (e : Ending) (w' : World) : Prop :=
  ∃ r : Int, e = .returned (.int .i64 r) ∧ ((r = -1 ∧ ∀ x, x ∈ l → x.1 ≠ num) ∨ ∃ (i : Nat) (d : ByteArray), r = i ∧ l[i]? = some (num, d)) ∧ w' = w
set_option maxRecDepth 100000 in
set_option maxHeartbeats 4000000 in
theorem find17 {w : World} {G : Nat} {l : List Ob} (h : Rf w G l) (num : Int) : Calls Tryz.prog 26 #[.pointer (some ⟨G, 0, none⟩), .int .i64 num] w (FiP w l num) := by
  obtain ⟨nv, bv, hb, hn, -⟩ := h.ex
  have x0 : w.cell? ⟨G, 0, none⟩ = some nv := hb.cell 0
  have ROW := Lib.hid (show ∀ k (x : Ob), l[k]? = some x → ∃ g c, nv = .slice (some ⟨g, 0, none⟩) l.length c ∧ w.cell? ⟨g, k, none⟩ = some (.int .i64 x.1) from fun k x hk => row_cell hn (by unfold nmL; rw [List.getElem?_map, List.getElem?_map, hk]; rfl) (List.getElem?_eq_some_iff.1 hk).1)
  obtain ⟨na, nc, rfl⟩ := ow_slice hn
  obtain ⟨ln, hln⟩ : ∃ ln, ln = l.length := ⟨_, rfl⟩
  have LN := Lib.hid (show ln = l.length ∧ ln ≤ 1000 from ⟨hln, by rw [hln]; exact h.len⟩)
  rw [← hln] at x0 ROW
  clear h hb hn hln
  go_enter Tryz.func26, Tryz.ntmps26
  go_wp2_with fail
  go_loopw [5] (fun iv wr => ∃ k : Nat, iv = .int .i64 k ∧ k ≤ ln ∧ (∀ i x, i < k → l[i]? = some x → x.1 ≠ num) ∧ wr = w) (fun iv _ => ln - (RowKit.intOf iv).toNat)
  case atStart => exact ⟨0, rfl, Nat.zero_le _, fun i x h => absurd h (Nat.not_lt_zero i), rfl⟩
  case round =>
    obtain ⟨k, rfl, hk, hall, rfl⟩ := hrel
    have AL := Lib.hid hall
    have ln9 : ln ≤ 9223372036854775807 := by have := LN.out; omega
    clear hall
    by_cases hlt : k < ln
    · have hlti : (k : Int) < (ln : Int) := by omega
      have kb : k < 9223372036854775807 := by omega
      obtain ⟨x, hx⟩ : ∃ x, l[k]? = some x := ⟨_, List.getElem?_eq_getElem (by rw [← LN.out.1]; exact hlt)⟩
      obtain ⟨g2, c2, e1, y0⟩ := ROW.out k x hx
      obtain ⟨rfl, rfl⟩ : na = some ⟨g2, 0, none⟩ ∧ nc = c2 := by injection e1 with a1 _ a2; exact ⟨a1, a2⟩
      have HX := Lib.hid hx
      have HL := Lib.hid hlt
      clear hx e1 hlt
      by_cases en : x.1 = num
      · have enb : (x.1 == num) = true := by simp [en]
        have FIN := Lib.hid (show FiP wr l num (.returned (.int .i64 k)) wr from ⟨k, rfl, .inr ⟨k, x.2, rfl, by rw [HX.out, ← en]⟩, rfl⟩)
        clear en
        as_aux_lemma =>
          go_wp2
          go_ret
          exact FIN.out
      · have enb : (x.1 == num) = false := by simp [en]
        have EN := Lib.hid en
        clear en
        as_aux_lemma =>
          go_wp2
          go_roundw
          case rel => exact ⟨k + 1, by push_cast; rfl, by have := HL.out; omega, fun i y hi hy => by
            by_cases e : i = k
            · subst e; rw [HX.out] at hy; injection hy with hy; rw [← hy]; exact EN.out
            · exact AL.out i y (by omega) hy, (by first | rfl | trivial)⟩
          case measure => have := HL.out; simp [RowKit.intOf]; omega
    · obtain rfl : k = ln := by omega
      have hni : ¬ (k : Int) < (k : Int) := by omega
      have FIN := Lib.hid (show FiP wr l num (.returned (.int .i64 (-1))) wr from ⟨-1, rfl, .inl ⟨rfl, fun x hx => by
        obtain ⟨i, hi, e⟩ := List.mem_iff_getElem.1 hx
        exact AL.out i x (by rw [LN.out.1]; exact hi) (by rw [List.getElem?_eq_getElem hi, e])⟩, rfl⟩)
      clear hlt
      as_aux_lemma =>
        go_wp2
        go_ret
        exact FIN.out
/-- The reference's objects are those of the volume. -/
structure RD (l : List Ob) (D : Do) : Prop where
  nd : (l.map (·.1)).Nodup
  mem : ∀ n d, (n, d) ∈ l ↔ D n = some d
theorem fi_none {l : List Ob} {D : Do} (h : RD l D) {num : Int} (hn : ∀ x, x ∈ l → x.1 ≠ num) : D num = none := by
  cases e : D num with
  | none => rfl
  | some d => exact absurd rfl (hn _ ((h.mem num d).2 e))
set_option maxRecDepth 100000 in
set_option maxHeartbeats 4000000 in
theorem get17 {w : World} {G : Nat} {l : List Ob} {D : Do} (h : Rf w G l) (hd : RD l D) (num : Int) : Calls Tryz.prog 7 #[.pointer (some ⟨G, 0, none⟩), .int .i64 num] w fun e w' => e = .returned (.tuple #[.string (dtD D num), .int .i64 (erD D num)]) ∧ w' = w := by
  have CF := Lib.hid (find17 h num)
  obtain ⟨nv, bv, hb, -, hn⟩ := h.ex
  have x1 : w.cell? ⟨G, 1, none⟩ = some bv := hb.cell 1
  have ROW := Lib.hid (show ∀ k (x : Ob), l[k]? = some x → ∃ g c, bv = .slice (some ⟨g, 0, none⟩) l.length c ∧ w.cell? ⟨g, k, none⟩ = some (.string x.2) from fun k x hk => row_cell hn (by unfold txL; rw [List.getElem?_map, List.getElem?_map, hk]; rfl) (List.getElem?_eq_some_iff.1 hk).1)
  obtain ⟨na, nc, rfl⟩ := ow_slice hn
  obtain ⟨ln, hln⟩ : ∃ ln, ln = l.length := ⟨_, rfl⟩
  have LN := Lib.hid (show ln = l.length ∧ ln ≤ 1000 from ⟨hln, by rw [hln]; exact h.len⟩)
  have HD := Lib.hid hd
  rw [← hln] at x1 ROW
  obtain ⟨dd, hdd⟩ : ∃ dd, dd = dtD D num := ⟨_, rfl⟩
  obtain ⟨er, her⟩ : ∃ er, er = erD D num := ⟨_, rfl⟩
  rw [← hdd, ← her]
  have E := Lib.hid (And.intro hdd her)
  clear h hb hn hln hd hdd her
  go_enter Tryz.func7, Tryz.ntmps7
  by_cases c0 : num < 0
  · have F := Lib.hid (show dd = ⟨#[]⟩ ∧ er = 1 by obtain ⟨e1, e2⟩ := er_bad (D := D) (num := num) (fun h => by unfold okN at h; omega); rw [E.out.1, E.out.2, e1, e2]; exact ⟨rfl, rfl⟩)
    as_aux_lemma =>
      go_wp2
      refine bodyPost_ret (v := .tuple #[.string ⟨#[]⟩, .int .i64 1]) (by simp [results, Tryz.results7, go_sem]) rfl ?_
      exact ⟨by rw [F.out.1, F.out.2], rfl⟩
  by_cases c1 : (999 : Int) < num
  · have F := Lib.hid (show dd = ⟨#[]⟩ ∧ er = 1 by obtain ⟨e1, e2⟩ := er_bad (D := D) (num := num) (fun h => by unfold okN at h; omega); rw [E.out.1, E.out.2, e1, e2]; exact ⟨rfl, rfl⟩)
    as_aux_lemma =>
      go_wp2
      refine bodyPost_ret (v := .tuple #[.string ⟨#[]⟩, .int .i64 1]) (by simp [results, Tryz.results7, go_sem]) rfl ?_
      exact ⟨by rw [F.out.1, F.out.2], rfl⟩
  have OK := Lib.hid (show okN num by unfold okN; omega)
  as_aux_lemma =>
    go_wp2_with fail
    refine CF.out.mono ?_
    rintro e w1 ⟨r, rfl, (⟨rfl, hno⟩ | ⟨i, d, rfl, hi⟩), hw⟩
    · rw [hw]
      have F := Lib.hid (show dd = ⟨#[]⟩ ∧ er = 150 by obtain ⟨e1, e2⟩ := er_no OK.out (fi_none HD.out hno); rw [E.out.1, E.out.2, e1, e2]; exact ⟨rfl, rfl⟩)
      clear hno hw CF
      go_wp2
      refine bodyPost_ret (v := .tuple #[.string ⟨#[]⟩, .int .i64 150]) (by simp [results, Tryz.results7, go_sem]) rfl ?_
      exact ⟨by rw [F.out.1, F.out.2], rfl⟩
    · rw [hw]
      have F := Lib.hid (show dd = d ∧ er = 0 by obtain ⟨e1, e2⟩ := er_yes OK.out ((HD.out.mem num d).1 (List.mem_of_getElem? hi)); rw [E.out.1, E.out.2, e1, e2]; exact ⟨rfl, rfl⟩)
      have hil : i < ln := by rw [LN.out.1]; exact (List.getElem?_eq_some_iff.1 hi).1
      have hili : (i : Int) < (ln : Int) := by omega
      obtain ⟨g2, c2, e1, y0⟩ := ROW.out i _ hi
      obtain ⟨rfl, rfl⟩ : na = some ⟨g2, 0, none⟩ ∧ nc = c2 := by injection e1 with a1 _ a2; exact ⟨a1, a2⟩
      clear hw CF hi e1
      go_wp2
      refine bodyPost_ret (v := .tuple #[.string d, .int .i64 0]) (by simp [results, Tryz.results7, go_sem]) rfl ?_
      exact ⟨by rw [F.out.1, F.out.2], rfl⟩
end Go.Proofs.YtaiiimlmkigajaaGreat
namespace Go.Proofs.YtaiiimlmkigajaaGreat
open Go.RowKit Go.Maps Go.ChangeShapes Go.WideShapes Go.ChangeAt Go.Deep

def prC (x : Ob) : Array Value := #[.string ⟨#[]⟩, .int .i64 x.1, .string x.2]
def obL (l : List Ob) : List Value := l.flatMap fun x => (prC x).toList
theorem obL_app (l m : List Ob) : obL (l ++ m) = obL l ++ obL m := by unfold obL; rw [List.flatMap_append]
theorem obL_get : ∀ (l : List Ob) (i : Nat) (s : Ob), l[i]? = some s → ∀ j, j < 3 → (obL l)[i * 3 + j]? = (prC s).toList[j]?
  | [], i, x, h, j, hj => by simp at h
  | y :: l, 0, x, h, j, hj => by
    simp at h
    subst h
    show ((prC y).toList ++ obL l)[0 * 3 + j]? = _
    rw [Nat.zero_mul, Nat.zero_add, List.getElem?_append_left (by show j < 3; exact hj)]
  | y :: l, i + 1, x, h, j, hj => by
    have := obL_get l i x (by simpa using h) j hj
    show ((prC y).toList ++ obL l)[(i + 1) * 3 + j]? = _
    rw [List.getElem?_append_right (by show 3 ≤ (i + 1) * 3 + j; omega), show (prC y).toList.length = 3 from rfl, show (i + 1) * 3 + j - 3 = i * 3 + j by omega]
    exact this
theorem pr_at {w : World} {base n : Nat} {v : Value} {l : List Ob} (h : w.ownsRow base 83 3 v n (obL l)) {i : Nat} {s : Ob} (hn : i < n) (hi : l[i]? = some s) : ∃ g cap, v = .slice (some ⟨g, 0, none⟩) n cap ∧ base ≤ g ∧ w.rangeAt g (i * 3) (prC s).toList := by
  obtain ⟨g, cap, hv, h1, h2⟩ := World.ownsRow.form h (by omega)
  refine ⟨g, cap, hv, by subst hv; exact (ow_blk h rfl).1, fun j v' hv' => ?_⟩
  have hj : j < 3 := by have := (List.getElem?_eq_some_iff.1 hv').1; rwa [show (prC s).toList.length = 3 from rfl] at this
  subst hv
  have := World.ownsRow.cells h (g := g) rfl (i * 3 + j) v' (by rw [obL_get l i s hi j hj]; exact hv')
  rw [Addr.add_lit, Nat.zero_add] at this
  exact this
section
variable {ops : Array Oper} {rest : List Oper} {o : Oper} {a : Act} {w : World} {Q : Exit → Act → World → Prop}
theorem slice1_pr (hg : o.guard = none) (x : Operand) (ho : o.op = .buildSlice 54 1 #[(0, x)]) (s : Ob)
    (hx : a.eval x = .agg (prC s)) (h : wpList Tryz.prog ops Q rest (a.put o.dst (.slice (some ⟨w.heap.size, 0, none⟩) 1 1)) (w.alloc (.cells (prC s) 83))) : wpList Tryz.prog ops Q (o :: rest) a w := by
  obtain ⟨i0, hi0, hz0, hz1, hz2⟩ := info_parts Tryz.infoK83
  refine wpList_buildSlice hg 54 83 1 #[(0, x)] ho (prC s) i0 _ Tryz.underlying54 hi0 hz0 (by rw [hz1]; decide) (by rw [hz1]; decide) ?_ h
  rw [hz1]
  simp only [List.map_toArray, List.map_cons, List.map_nil, hx]
  kernel_rfl
theorem app_pr (hg : o.guard = none) (x y : Operand) (ho : o.op = .call { callee := .builtin .append, args := #[x, y], argTypes := #[54, 54] }) {B0 : Nat} {s : Ob} {l : List Ob} {n : Nat} {v : Value}
    (hx : a.eval x = v) (hy : a.eval y = .slice (some ⟨w.heap.size, 0, none⟩) 1 1) (hown : w.ownsRow B0 83 3 v n (obL l)) (hb : B0 ≤ w.heap.size) (hl : n ≤ 1000000)
    (h : ∀ g cap w', w'.ownsRow B0 83 3 (.slice (some ⟨g, 0, none⟩) (n + 1) cap) (n + 1) (obL (l ++ [s])) → w.grownBy w' v.ownBlock → wpList Tryz.prog ops Q rest (a.put o.dst (.slice (some ⟨g, 0, none⟩) (n + 1) cap)) w') :
    wpList Tryz.prog ops Q (o :: rest) a (w.alloc (.cells (prC s) 83)) := by
  obtain ⟨i0, hi, hz0, hz1, hz2⟩ := info_parts Tryz.infoK83
  refine wpList_append_lies (w.alloc (.cells (prC s) 83)) hg x y 54 ho B0 83 i0 _ 3 40 Tryz.underlying54 hi hz0 hz1 hz2 rfl (by decide) v n (obL l) hx (ow_kept hown ((Below.refl w.heap.size w).alloc (Nat.le_refl _) _)) ⟨w.heap.size, 0, none⟩ 1 1 (prC s).toList hy rfl (fun j u hu => ?_) (fun u hu => ?_) (by decide) (by unfold maxLen; omega) (by omega) (by rw [World.size_alloc]; exact Nat.le_succ_of_le hb) _ rfl ?_
  · rw [Addr.add_lit, Nat.zero_add, (Bk.new w 83 (prC s)).cell]
    simpa using hu
  · rcases List.mem_cons.1 hu with rfl | hu
    · rfl
    rcases List.mem_cons.1 hu with rfl | hu
    · rfl
    rw [List.mem_singleton.1 hu]; rfl
  · intro g cap w' hown' hgrow _ _
    have e : obL l ++ (prC s).toList = obL (l ++ [s]) := by rw [obL_app]; unfold obL; simp
    rw [e] at hown'
    exact h g cap w' hown' (World.grownBy.trans (World.grownBy_alloc w _ _) hgrow)
end
def upL (D : Do) (k : Nat) : List Ob := (List.range k).filterMap fun n : Nat => (D (n : Int)).map fun d => ((n : Int), d)
theorem upL_none {D : Do} {k : Nat} (h : D (k : Int) = none) : upL D (k + 1) = upL D k := by
  unfold upL
  rw [List.range_succ, List.filterMap_append, List.filterMap_cons_none (by rw [h]; rfl)]
  simp
theorem upL_some {D : Do} {k : Nat} {d : ByteArray} (h : D (k : Int) = some d) : upL D (k + 1) = upL D k ++ [((k : Int), d)] := by
  unfold upL
  rw [List.range_succ, List.filterMap_append, List.filterMap_cons_some (by rw [h]; rfl)]
  rfl
theorem upL_len (D : Do) (k : Nat) : (upL D k).length ≤ k := by
  unfold upL
  have := List.length_filterMap_le (fun n : Nat => (D (n : Int)).map fun d => ((n : Int), d)) (List.range k)
  rwa [List.length_range] at this
set_option maxRecDepth 100000 in
set_option maxHeartbeats 8000000 in
theorem list17r {w : World} {G : Nat} {l : List Ob} {D : Do} (h : Rf w G l) (hd : RD l D) : Calls Tryz.prog 19 #[.pointer (some ⟨G, 0, none⟩)] w fun e w' => ∃ v, e = .returned v ∧ w'.ownsRow w.heap.size 83 3 v (objsL D).length (obL (objsL D)) ∧ Below w.heap.size w w' := by
  have H := Lib.hid h; have HD := Lib.hid hd
  obtain ⟨nv, bv, hbk, -, hbv⟩ := h.ex
  have BK := Lib.hid hbk; have BR := Lib.hid hbv
  obtain ⟨ba, bc, rfl⟩ := ow_slice hbv
  obtain ⟨ln, hln⟩ : ∃ ln, ln = l.length := ⟨_, rfl⟩
  have LN := Lib.hid (show ln = l.length ∧ ln ≤ 1000 from ⟨hln, by rw [hln]; exact h.len⟩)
  rw [← hln] at BK BR
  clear h hd hbk hbv hln
  go_enter Tryz.func19, Tryz.ntmps19
  go_wp2_with fail
  go_loopw [3, 4] (fun ls iv wr => ∃ k : Nat, iv = .int .i64 k ∧ k ≤ 1000 ∧ wr.ownsRow w.heap.size 83 3 ls (upL D k).length (obL (upL D k)) ∧ Below w.heap.size w wr) (fun _ iv _ => 1000 - (RowKit.intOf iv).toNat)
  case atStart => exact ⟨0, rfl, Nat.zero_le _, World.ownsRow_nil _ _ _ _, Below.refl _ _⟩
  case round =>
    obtain ⟨k, rfl, hk, ho, hb⟩ := hrel
    obtain ⟨n, hn⟩ : ∃ n, n = (upL D k).length := ⟨_, rfl⟩
    rw [← hn] at ho
    obtain ⟨la, lc, rfl⟩ := ow_slice ho
    have O := Lib.hid ho; have BW := Lib.hid hb; have NN := Lib.hid (show n = (upL D k).length ∧ n ≤ 1000000 ∧ k ≤ 1000 from ⟨hn, by rw [hn]; have := upL_len D k; omega, hk⟩)
    clear ho hb hn
    by_cases hlt : k < 1000
    · have hlti : (k : Int) < 1000 := by omega
      have CF := Lib.hid (find17 (H.out.kept BW.out) (k : Int))
      have x1 : wr.cell? ⟨G, 1, none⟩ = some (.slice ba ln bc) := by rw [BW.out.cell (BK.out.lt)]; exact BK.out.cell 1
      have ROW := Lib.hid (show ∀ i (x : Ob), l[i]? = some x → ∃ g c, (Value.slice ba ln bc) = .slice (some ⟨g, 0, none⟩) ln c ∧ wr.cell? ⟨g, i, none⟩ = some (.string x.2) from fun i x hi => row_cell (ow_kept BR.out BW.out) (by unfold txL; rw [List.getElem?_map, List.getElem?_map, hi]; rfl) (by rw [LN.out.1]; exact (List.getElem?_eq_some_iff.1 hi).1))
      have HLT := Lib.hid hlt
      clear hlt hk
      as_aux_lemma =>
        go_wp2_with fail
        refine CF.out.mono ?_
        rintro e w1 ⟨r, rfl, (⟨rfl, hno⟩ | ⟨i, d, rfl, hi⟩), hw⟩
        · rw [hw]
          have EU := Lib.hid (upL_none (fi_none HD.out hno))
          clear hno hw CF
          go_wp2
          go_roundw
          case rel => exact ⟨k + 1, by push_cast; rfl, by have := HLT.out; omega, by rw [EU.out, ← NN.out.1]; exact O.out, BW.out⟩
          case measure => have := HLT.out; simp [RowKit.intOf]; omega
        · rw [hw]
          have EU := Lib.hid (upL_some ((HD.out.mem _ d).1 (List.mem_of_getElem? hi)))
          have hil : i < ln := by rw [LN.out.1]; exact (List.getElem?_eq_some_iff.1 hi).1
          have hili : (i : Int) < (ln : Int) := by omega
          obtain ⟨g2, c2, e1, y0⟩ := ROW.out i _ hi
          obtain ⟨rfl, rfl⟩ : ba = some ⟨g2, 0, none⟩ ∧ bc = c2 := by injection e1 with a1 _ a2; exact ⟨a1, a2⟩
          clear hw CF hi e1 ROW
          as_aux_lemma =>
            go_wp2_with (first | (refine slice1_pr rfl _ rfl ((k : Int), d) rfl ?_) | (refine app_pr rfl _ _ rfl (B0 := w.heap.size) (s := ((k : Int), d)) (l := upL D k) (n := n) (v := .slice la n lc) rfl rfl O.out BW.out.size NN.out.2.1 ?_; intro g7 cap7 w7 hown hgr; (have O7 := Lib.hid hown); (have B7 := Lib.hid (bl_grow BW.out hgr (fun z hz => (ow_blk O.out hz).1) BW.out.size)); clear hown hgr))
            go_roundw
            case rel => exact ⟨k + 1, by push_cast; rfl, by have := HLT.out; omega, by
              rw [EU.out, List.length_append, ← NN.out.1]; exact O7.out, B7.out⟩
            case measure => have := HLT.out; simp [RowKit.intOf]; omega
    · obtain rfl : k = 1000 := by have := NN.out; omega
      have FIN := Lib.hid (show wr.ownsRow w.heap.size 83 3 (.slice la n lc) (objsL D).length (obL (objsL D)) from by
        have := O.out
        rw [NN.out.1] at this
        rw [NN.out.1]
        exact this)
      clear hlt hk
      as_aux_lemma =>
        go_wp2
        go_ret
        exact ⟨_, rfl, FIN.out, BW.out⟩
set_option maxRecDepth 100000 in
set_option maxHeartbeats 4000000 in
theorem same17 {w : World} {l : List Ob} {u v : Value} {bu bv : Nat} (hu : w.ownsRow bu 83 3 u l.length (obL l)) (hv : w.ownsRow bv 83 3 v l.length (obL l)) (hl : l.length ≤ 1000000) : Calls Tryz.prog 18 #[u, v] w fun e w' => e = .returned (.bool true) ∧ Below w.heap.size w w' := by
  have U := Lib.hid hu; have V := Lib.hid hv
  obtain ⟨ua, uc, rfl⟩ := ow_slice hu
  obtain ⟨va, vc, rfl⟩ := ow_slice hv
  obtain ⟨n, hn⟩ : ∃ n, n = l.length := ⟨_, rfl⟩
  have NN := Lib.hid (show n = l.length ∧ n ≤ 1000000 from ⟨hn, by rw [hn]; exact hl⟩)
  rw [← hn] at U V ⊢
  have n9 : n ≤ 9223372036854775807 := by omega
  clear hu hv hn hl
  go_enter Tryz.func18, Tryz.ntmps18
  go_wp2_with fail
  go_loopw [5] (fun iv wr => ∃ k : Nat, iv = .int .i64 k ∧ k ≤ n ∧ Below w.heap.size w wr) (fun iv _ => n - (RowKit.intOf iv).toNat)
  case atStart => exact ⟨0, rfl, Nat.zero_le _, Below.refl _ _⟩
  case round =>
    obtain ⟨k, rfl, hk, hb⟩ := hrel
    have BW := Lib.hid hb
    by_cases hlt : k < n
    · have hlti : (k : Int) < (n : Int) := by omega
      have kb : k < 9223372036854775807 := by have := NN.out; omega
      obtain ⟨x, hx⟩ : ∃ x, l[k]? = some x := ⟨_, List.getElem?_eq_getElem (by rw [← NN.out.1]; exact hlt)⟩
      obtain ⟨gu, uc', e1, -, ru⟩ := pr_at (ow_kept U.out hb) hlt hx
      obtain ⟨gv, vc', e2, -, rv⟩ := pr_at (ow_kept V.out hb) hlt hx
      obtain ⟨rfl, rfl⟩ : ua = some ⟨gu, 0, none⟩ ∧ uc = uc' := by injection e1 with a1 _ a2; exact ⟨a1, a2⟩
      obtain ⟨rfl, rfl⟩ : va = some ⟨gv, 0, none⟩ ∧ vc = vc' := by injection e2 with a1 _ a2; exact ⟨a1, a2⟩
      have y0 : wr.cell? ⟨gu, k * 3, none⟩ = some (.string ⟨#[]⟩) := ru 0 _ rfl
      have y1 : wr.cell? ⟨gu, k * 3 + 1, none⟩ = some (.int .i64 x.1) := ru 1 _ rfl
      have y2 : wr.cell? ⟨gu, k * 3 + 2, none⟩ = some (.string x.2) := ru 2 _ rfl
      have z0 : wr.cell? ⟨gv, k * 3, none⟩ = some (.string ⟨#[]⟩) := rv 0 _ rfl
      have z1 : wr.cell? ⟨gv, k * 3 + 1, none⟩ = some (.int .i64 x.1) := rv 1 _ rfl
      have z2 : wr.cell? ⟨gv, k * 3 + 2, none⟩ = some (.string x.2) := rv 2 _ rfl
      have es : (x.2.toList == x.2.toList) = true := by simp
      have HLT := Lib.hid hlt
      clear hx e1 e2 ru rv hlt hb hk U V
      as_aux_lemma =>
        go_upto_region 6 with fail
        go_quiet (fail)
        have B4 := Lib.hid (below_drewN BW.out nq)
        generalize wr.drewN nq = w9 at *
        go_wp2
        go_roundw
        case rel => exact ⟨k + 1, by push_cast; rfl, by have := HLT.out; omega, B4.out⟩
        case measure => have := HLT.out; simp [RowKit.intOf]; omega
    · obtain rfl : k = n := by omega
      have hni : ¬ (k : Int) < (k : Int) := by omega
      clear hlt hk hb
      as_aux_lemma =>
        go_wp2
        go_ret
        exact ⟨rfl, BW.out⟩
end Go.Proofs.YtaiiimlmkigajaaGreat
namespace Go.Proofs.YtaiiimlmkigajaaGreat
open Go.RowKit Go.Maps Go.ChangeShapes Go.WideShapes Go.ChangeAt Go.Deep

def kvC (p : Kv) : Array Value := #[.string p.1, .int .i64 0, .string p.2]
theorem add_same (acc : List Ob) {n : Int} (hn : 0 ≤ n ∧ n < 1000) {i : Nat} (hi : 0 < i ∧ i < 65536) (v : ByteArray) (h : ∀ a m d, acc = a ++ [(m, d)] → m ≠ n) : addF acc (lkey n i, v) = acc := by
  unfold addF
  rw [numK_lkey hn, if_neg (fun e => by
    have := lkey_inN (n := n) (m := n) (p := i) (q := 0) ⟨hn.1, hn.2, hi.2⟩ ⟨hn.1, hn.2, by decide⟩ e
    omega)]
  cases e : acc.getLast? with
  | none => rfl
  | some x =>
    obtain ⟨a, ha⟩ := List.getLast?_eq_some_iff.1 e
    show (if x.1 = n then _ else _) = _
    rw [if_neg (h a x.1 x.2 ha)]
theorem ob_set (acc : List Ob) (n : Int) (d v : ByteArray) : (obL (acc ++ [(n, d)])).set (acc.length * 3 + 2) (.string v) = obL (acc ++ [(n, v)]) := by
  rw [obL_app, obL_app]
  have hl : ∀ l : List Ob, (obL l).length = l.length * 3 := by
    intro l
    induction l with
    | nil => rfl
    | cons x l ih => unfold obL at *; rw [List.flatMap_cons, List.length_append, ih, List.length_cons, show (prC x).toList.length = 3 from rfl]; omega
  rw [List.set_append_right _ _ (by rw [hl]; omega), hl, show acc.length * 3 + 2 - acc.length * 3 = 2 by omega]
  rfl
theorem or_num : ∀ n : Fin 1000, bits .or .i64 ((((n.1 / 256) % 256 : Nat) : Int) * 256) ((n.1 % 256 : Nat) : Int) = (n.1 : Int) := by decide +kernel
theorem key_or {n : Int} {i : Nat} (h : inN n i) {K : ByteArray} (hK : K = lkey n i) (h0 : 0 < K.size) (h1 : 1 < K.size) : bits .or .i64 (wrap64 (wrap64 ((K[0]'h0).toNat : Int) * 256)) (wrap64 ((K[1]'h1).toNat : Int)) = n := by
  subst hK
  obtain ⟨m, rfl⟩ := Int.eq_ofNat_of_zero_le h.1
  have hm : m < 1000 := by have := h.2.1; omega
  have e2 : ((lkey (m : Int) (i : Int))[0]'h0).toNat = (((m : Int) / 256) % 256).toNat := by8_nat _
  have e3 : ((lkey (m : Int) (i : Int))[1]'h1).toNat = ((m : Int) % 256).toNat := by8_nat _
  rw [e2, e3]
  have a1 : wrap64 (wrap64 (((((m : Int) / 256) % 256).toNat : Nat) : Int) * 256) = (((m / 256) % 256 : Nat) : Int) * 256 := by unfold wrap64; omega
  have a2 : wrap64 ((((m : Int) % 256).toNat : Nat) : Int) = ((m % 256 : Nat) : Int) := by unfold wrap64; omega
  rw [a1, a2]
  exact or_num ⟨m, hm⟩
section
variable {ops : Array Oper} {rest : List Oper} {o : Oper} {a : Act} {w : World} {Q : Exit → Act → World → Prop}
theorem app_pr2 (hg : o.guard = none) (x y : Operand) (ho : o.op = .call { callee := .builtin .append, args := #[x, y], argTypes := #[54, 54] }) {B0 : Nat} {s : Ob} {l : List Ob} {n : Nat} {v : Value}
    (hx : a.eval x = v) (hy : a.eval y = .slice (some ⟨w.heap.size, 0, none⟩) 1 1) (hown : w.ownsRow B0 83 3 v n (obL l)) (hb : B0 ≤ w.heap.size) (hl : n ≤ 1000000)
    (h : ∀ g cap w', w'.ownsRow B0 83 3 (.slice (some ⟨g, 0, none⟩) (n + 1) cap) (n + 1) (obL (l ++ [s])) → w.grownBy w' v.ownBlock → (v.ownBlock = some g ∨ w.heap.size ≤ g) → wpList Tryz.prog ops Q rest (a.put o.dst (.slice (some ⟨g, 0, none⟩) (n + 1) cap)) w') :
    wpList Tryz.prog ops Q (o :: rest) a (w.alloc (.cells (prC s) 83)) := by
  obtain ⟨i0, hi, hz0, hz1, hz2⟩ := info_parts Tryz.infoK83
  refine wpList_append_lies (w.alloc (.cells (prC s) 83)) hg x y 54 ho B0 83 i0 _ 3 40 Tryz.underlying54 hi hz0 hz1 hz2 rfl (by decide) v n (obL l) hx (ow_kept hown ((Below.refl w.heap.size w).alloc (Nat.le_refl _) _)) ⟨w.heap.size, 0, none⟩ 1 1 (prC s).toList hy rfl (fun j u hu => ?_) (fun u hu => ?_) (by decide) (by unfold maxLen; omega) (by omega) (by rw [World.size_alloc]; exact Nat.le_succ_of_le hb) _ rfl ?_
  · rw [Addr.add_lit, Nat.zero_add, (Bk.new w 83 (prC s)).cell]
    simpa using hu
  · rcases List.mem_cons.1 hu with rfl | hu
    · rfl
    rcases List.mem_cons.1 hu with rfl | hu
    · rfl
    rw [List.mem_singleton.1 hu]; rfl
  · intro g cap w' hown' hgrow hpl _
    have e : obL l ++ (prC s).toList = obL (l ++ [s]) := by rw [obL_app]; unfold obL; simp
    rw [e] at hown'
    exact h g cap w' hown' (World.grownBy.trans (World.grownBy_alloc w _ _) hgrow) (hpl.imp id fun e => by rw [e, World.size_alloc]; exact Nat.le_succ _)
end
set_option maxRecDepth 100000 in
set_option maxHeartbeats 8000000 in
theorem add17 {w : World} {base : Nat} (v : Value) (acc : List Ob) (ho : w.ownsRow base 83 3 v acc.length (obL acc)) (hb : base ≤ w.heap.size) (hl : acc.length ≤ 900000) (n : Int) (i : Nat) (hn : inN n i) (s : ByteArray) (hs : s.size ≤ 100000) (hz : ∀ x, x ∈ acc → x.2.size ≤ 100000000) :
    Calls Tryz.prog 35 #[v, .agg (kvC (lkey n i, s))] w fun e w' => ∃ v', e = .returned v' ∧ w'.ownsRow base 83 3 v' (addF acc (lkey n i, s)).length (obL (addF acc (lkey n i, s))) ∧ w.grownBy w' v.ownBlock ∧ ∀ q, v'.ownBlock = some q → v.ownBlock = some q ∨ w.heap.size ≤ q := by
  have O0 := Lib.hid ho
  have K1 := Lib.hid (Bk.new w 83 (kvC (lkey n i, s)))
  have O1 := Lib.hid (ow_kept ho ((Below.refl w.heap.size w).alloc (Nat.le_refl _) (.cells (kvC (lkey n i, s)) 83)))
  have HB := Lib.hid hb; have HL := Lib.hid hl; have HN := Lib.hid hn; have HZ := Lib.hid hz; have SS := Lib.hid hs
  obtain ⟨K, hK⟩ : ∃ K, K = lkey n i := ⟨_, rfl⟩
  obtain ⟨ln, hln⟩ : ∃ ln, ln = acc.length := ⟨_, rfl⟩
  obtain ⟨va, vc, rfl⟩ := ow_slice ho
  rw [← hln] at O1 O0 ⊢
  have G1 := Lib.hid (World.grownBy_alloc w (.cells (kvC (lkey n i, s)) 83) (Value.slice va ln vc).ownBlock)
  have LN := Lib.hid hln
  have KE := Lib.hid (And.intro hK (show K.size = 4 by rw [hK]; rfl))
  clear ho hb hl hn hz hs hln
  go_enter Tryz.func35, Tryz.ntmps35
  go_upto_region 1 with fail
  change Code.wp _ _ _ _ (w.alloc (.cells (kvC (lkey n i, s)) 83))
  obtain ⟨G, hG⟩ : ∃ G, G = w.heap.size := ⟨_, rfl⟩
  have GH := Lib.hid hG
  rw [← hG] at K1 ⊢
  clear hG
  generalize w.alloc (.cells (kvC (lkey n i, s)) 83) = w1 at *
  have k4 : K.size = 4 := KE.out.2
  obtain ⟨KZ, hKZ⟩ : ∃ KZ, KZ = lkey 0 0 := ⟨_, rfl⟩
  have kz4 : KZ.size = 4 := by rw [hKZ]; rfl
  have CZ := Lib.hid (show ∀ wx, Calls Tryz.prog 58 #[.int .i64 0, .int .i64 0] wx fun e w' => e = .returned (.string KZ) ∧ Below wx.heap.size wx w' from fun wx => by rw [hKZ]; exact lkey_any 0 0 wx (by decide) (by decide))
  have y0 := fun x : Kp w1 => show x.1.cell? ⟨G, 0, none⟩ = some (.string K) from by rw [hK]; exact x.cell (K1.out.cell 0)
  clear hK hKZ
  refine wp_region_kept (by kernel_rfl) (by kernel_rfl) ?_
  repeat (first
    | go_big_quiet_skip
    | (go_big_quiet_want; go_big_quiet_op; first | go_big_quiet_on | go_big_quiet_call (exact kp_call (CZ.out _))))
  refine wpQuiet_nil ?_
  rintro _ ⟨x, rfl⟩
  have K2 := Lib.hid (K1.out.kept x.2); have O2 := Lib.hid (ow_kept O1.out x.2); have G2 := Lib.hid (World.grownBy.trans G1.out (only_below x.2 (Value.slice va ln vc).ownBlock))
  clear y0 CZ K1 O1 G1 kz4
  generalize x.1 = w2 at K2 O2 G2 ⊢
  clear x
  have kz0 : 0 < K.size := by rw [k4]; decide
  have kz1 : 1 < K.size := by rw [k4]; decide
  have z0 : w2.cell? ⟨G, 0, none⟩ = some (.string K) := by rw [KE.out.1]; exact K2.out.cell 0
  go_upto_region 3 with fail
  go_quiet (fail)
  rw [key_or HN.out KE.out.1]
  have K3 := Lib.hid (K2.out.kept (below_drewN (Below.refl w2.heap.size w2) nq)); have O3 := Lib.hid (ow_kept O2.out (below_drewN (Below.refl w2.heap.size w2) nq)); have G3 := Lib.hid (only_drewN G2.out nq)
  generalize w2.drewN nq = w3 at *
  clear z0 K2 O2 G2
  have NI := Lib.hid (show -9223372036854775808 ≤ n ∧ n ≤ 9223372036854775807 by have := HN.out; unfold inN at this; omega)
  obtain ⟨K0, hK0⟩ : ∃ K0, K0 = lkey n 0 := ⟨_, rfl⟩
  have CN := Lib.hid (show ∀ wx, Calls Tryz.prog 58 #[.int .i64 n, .int .i64 0] wx fun e w' => e = .returned (.string K0) ∧ Below wx.heap.size wx w' from fun wx => by rw [hK0]; exact lkey_any n 0 wx NI.out (by decide))
  have y0 := fun x : Kp w3 => show x.1.cell? ⟨G, 0, none⟩ = some (.string K) from by rw [KE.out.1]; exact x.cell (K3.out.cell 0)
  obtain ⟨bq, hbq⟩ : ∃ bq, (K.toList == K0.toList) = bq := ⟨_, rfl⟩
  have QQ := Lib.hid (show (bq = true → i = 0) ∧ (bq = false → 0 < i) from by
    have e1 : bq = true ↔ K = K0 := by rw [← hbq]; exact seq_iff _ _
    constructor
    · intro h
      have := e1.1 h
      rw [KE.out.1, hK0] at this
      exact (lkey_inN (q := 0) HN.out ⟨HN.out.1, HN.out.2.1, by decide⟩ this).2
    · intro h
      refine Nat.pos_of_ne_zero fun e => ?_
      have := e1.2 (by rw [KE.out.1, hK0, e]; rfl)
      rw [h] at this; cases this)
  clear hK0
  as_aux_lemma =>
    go_upto_region 4 with fail
    refine wp_region_kept (by kernel_rfl) (by kernel_rfl) ?_
    repeat (first
      | go_big_quiet_skip
      | (go_big_quiet_want; go_big_quiet_op; first | go_big_quiet_on | go_big_quiet_call (exact kp_call (CN.out _))))
    refine wpQuiet_nil ?_
    rintro _ ⟨x, rfl⟩
    have K4 := Lib.hid (K3.out.kept x.2); have O4 := Lib.hid (ow_kept O3.out x.2); have G4 := Lib.hid (World.grownBy.trans G3.out (only_below x.2 (Value.slice va ln vc).ownBlock))
    clear y0 CN K3 O3 G3 hbq
    generalize x.1 = w4 at K4 O4 G4 ⊢
    clear x
    have z2 : w4.cell? ⟨G, 2, none⟩ = some (.string s) := K4.out.cell 2
    have B4 := Lib.hid (show base ≤ w4.heap.size from Nat.le_trans HB.out G4.out.size)
    cases bq with
    | true =>
      have I0 := QQ.out.1 rfl
      have EA := Lib.hid (show addF acc (lkey n i, s) = acc ++ [(n, s)] by rw [I0]; exact add_first acc ⟨HN.out.1, HN.out.2.1⟩ s)
      have N9 := Lib.hid (show ln ≤ 1000000 by have := HL.out; rw [LN.out]; omega)
      clear I0
      as_aux_lemma =>
        go_wp2_with (first | (refine slice1_pr rfl _ rfl (n, s) rfl ?_) | (refine app_pr2 rfl _ _ rfl (B0 := base) (s := (n, s)) (l := acc) (n := ln) (v := .slice va ln vc) rfl rfl O4.out B4.out N9.out ?_; intro g7 cap7 w7 hown hgr hpl; (have PL7 := Lib.hid hpl); (have O7 := Lib.hid hown); (have G7 := Lib.hid (World.grownBy.trans G4.out hgr)); clear hown hgr hpl))
        go_ret
        exact ⟨_, rfl, by rw [EA.out, List.length_append, ← LN.out]; exact O7.out, G7.out, fun q hq => by
          obtain rfl : g7 = q := by injection hq
          exact PL7.out.imp id fun e => Nat.le_trans G4.out.size e⟩
    | false =>
      have I0 := Lib.hid (QQ.out.2 rfl)
      rcases List.eq_nil_or_concat acc with rfl | ⟨a0, ⟨m, d⟩, eacc⟩
      · have EA := Lib.hid (show addF [] (lkey n i, s) = [] from add_same [] ⟨HN.out.1, HN.out.2.1⟩ ⟨I0.out, HN.out.2.2⟩ s (fun a m d h => by simp at h))
        have l0 : ln = 0 := LN.out
        subst l0
        clear HZ
        as_aux_lemma =>
          go_wp2
          go_ret
          exact ⟨_, rfl, by rw [EA.out]; exact O4.out, G4.out, fun q hq => .inl hq⟩
      · rw [List.concat_eq_append] at eacc
        subst eacc
        have ln1 : ln = a0.length + 1 := by rw [LN.out]; simp
        obtain ⟨q, hq⟩ : ∃ q, q = a0.length := ⟨_, rfl⟩
        have LQ := Lib.hid (show ln = q + 1 ∧ q = a0.length ∧ ln ≤ 900000 from ⟨by omega, hq, by have := HL.out; rw [LN.out]; exact this⟩)
        have hqq : (a0 ++ [(m, d)])[q]? = some (m, d) := by rw [hq]; simp
        obtain ⟨g2, c2, e1, hg2, hrow⟩ := pr_at O4.out (i := q) (by omega) hqq
        obtain ⟨rfl, rfl⟩ : va = some ⟨g2, 0, none⟩ ∧ vc = c2 := by injection e1 with a1 _ a2; exact ⟨a1, a2⟩
        have r1 : w4.cell? ⟨g2, q * 3 + 1, none⟩ = some (.int .i64 m) := hrow 1 _ rfl
        have r2 : w4.cell? ⟨g2, q * 3 + 2, none⟩ = some (.string d) := hrow 2 _ rfl
        have qi : (q : Int) < (ln : Int) := by omega
        have qn : q < ln := by omega
        have l0 : (0 : Int) < (ln : Int) := by omega
        have wr1 : wrap64 ((ln : Int) - 1) = (q : Int) := by have := LQ.out; unfold wrap64; omega
        have wr2 : IntKind.i64.wrap ((ln : Int) - 1) = (q : Int) := by rw [IntWalk.i64_in _ (by have := LQ.out; omega)]; have := LQ.out; omega
        have f2 : w4.frozen? ⟨g2, q * 3 + 2, none⟩ = false := O4.out.frozenAt (q * 3 + 2)
        have DS := Lib.hid (HZ.out (m, d) (by simp))
        have zs : ¬ 9223372036854775807 < d.size + s.size := by have := DS.out; have := SS.out; dsimp only at *; omega
        clear hqq hg2 hrow e1 hq ln1
        by_cases em : m = n
        · have EA := Lib.hid (show addF (a0 ++ [(m, d)]) (lkey n i, s) = a0 ++ [(n, d ++ s)] by rw [em]; exact add_more a0 ⟨HN.out.1, HN.out.2.1⟩ d s ⟨I0.out, HN.out.2.2⟩)
          have ST := Lib.hid (show (w4.drew.setCell ⟨g2, q * 3 + 2, none⟩ (.string (d ++ s))).ownsRow base 83 3 (.slice (some ⟨g2, 0, none⟩) ln vc) ln (obL (a0 ++ [(n, d ++ s)])) ∧ w.grownBy (w4.drew.setCell ⟨g2, q * 3 + 2, none⟩ (.string (d ++ s))) (some g2) from by
            obtain ⟨h1, h2⟩ := O4.out.drew.stored (q * 3 + 2) (.string (d ++ s))
            refine ⟨?_, World.grownBy.trans (World.grownBy.trans G4.out (only_below ((Below.refl w4.heap.size w4).drew) _)) h2⟩
            rw [em, LQ.out.2.1, ob_set] at h1
            rw [LQ.out.2.1]
            exact h1)
          have emb : (m == n) = true := by simp [em]
          have LE := Lib.hid (show (a0 ++ [(n, d ++ s)]).length = ln by rw [List.length_append, LQ.out.1, LQ.out.2.1]; rfl)
          clear em
          as_aux_lemma =>
            go_upto_region 7 with fail
            refine wp_region_still_tail 12 (by kernel_rfl) (by kernel_rfl) ?_
            simp only [List.take_succ_cons, List.take_zero, List.drop_succ_cons, List.drop_zero]
            iterate 12 still_step
            refine wpStill_nil ?_
            change wpList _ _ _ _ _ w4.drew
            go_wp2
            go_ret
            exact ⟨_, rfl, by rw [EA.out, LE.out]; exact ST.out.1, ST.out.2, fun q hq => .inl hq⟩
        · have EA := Lib.hid (show addF (a0 ++ [(m, d)]) (lkey n i, s) = a0 ++ [(m, d)] from add_same _ ⟨HN.out.1, HN.out.2.1⟩ ⟨I0.out, HN.out.2.2⟩ s (fun a m' d' h => by
            have h2 := (List.append_inj' h rfl).2
            injection h2 with h2
            injection h2 with h2 _
            rw [← h2]; exact em))
          have emb : (m == n) = false := by simp [em]
          clear em
          as_aux_lemma =>
            go_wp2
            go_ret
            exact ⟨_, rfl, by rw [EA.out, ← LN.out]; exact O4.out, G4.out, fun q hq => .inl hq⟩
theorem addF_bd {acc : List Ob} {p : Kv} {t : Nat} (h1 : acc.length ≤ t) (h2 : ∀ x, x ∈ acc → x.2.size ≤ 16 * t) (hp : p.2.size ≤ 16) : (addF acc p).length ≤ t + 1 ∧ ∀ x, x ∈ addF acc p → x.2.size ≤ 16 * (t + 1) := by
  unfold addF
  by_cases c : p.1 = lkey (numK p.1) 0
  · rw [if_pos c]
    refine ⟨by rw [List.length_append]; simp; omega, fun x hx => ?_⟩
    rcases List.mem_append.1 hx with hx | hx
    · have := h2 x hx; omega
    · rw [List.mem_singleton.1 hx]; show p.2.size ≤ _; omega
  · rw [if_neg c]
    cases e : acc.getLast? with
    | none => exact ⟨by show acc.length ≤ _; omega, fun x hx => by have := h2 x hx; omega⟩
    | some y =>
      obtain ⟨a0, ha⟩ := List.getLast?_eq_some_iff.1 e
      show (if y.1 = numK p.1 then _ else _ : List Ob).length ≤ _ ∧ ∀ x, x ∈ (if y.1 = numK p.1 then _ else _ : List Ob) → _
      by_cases c2 : y.1 = numK p.1
      · rw [if_pos c2]
        have hd : acc.dropLast = a0 := by rw [ha]; simp
        rw [hd]
        have hl : acc.length = a0.length + 1 := by rw [ha]; simp
        refine ⟨by rw [List.length_append]; simp; omega, fun x hx => ?_⟩
        rcases List.mem_append.1 hx with hx | hx
        · have := h2 x (by rw [ha]; exact List.mem_append_left _ hx); omega
        · rw [List.mem_singleton.1 hx]
          have := h2 y (by rw [ha]; simp)
          show (y.2 ++ p.2).size ≤ _
          rw [ByteArray.size_append]; omega
      · rw [if_neg c2]
        exact ⟨by omega, fun x hx => by have := h2 x hx; omega⟩
theorem accL_bd {L : List Kv} (h16 : ∀ p, p ∈ L → p.2.size ≤ 16) : ∀ t, ((L.take t).foldl addF []).length ≤ t ∧ ∀ x, x ∈ (L.take t).foldl addF [] → x.2.size ≤ 16 * t
  | 0 => ⟨Nat.le_refl 0, fun x hx => by cases hx⟩
  | t + 1 => by
    obtain ⟨g1, g2⟩ := accL_bd h16 t
    cases e : L[t]? with
    | none =>
      rw [List.take_add_one, e]
      simp only [Option.toList_none, List.append_nil]
      exact ⟨by omega, fun x hx => by have := g2 x hx; omega⟩
    | some p =>
      rw [List.take_add_one, e, List.foldl_append]
      exact addF_bd g1 g2 (h16 p (List.mem_of_getElem? e))
set_option maxRecDepth 100000 in
theorem allK_facts {D : Do} (hz : ∀ n d, D n = some d → d.size ≤ 4096) : (∀ p, p ∈ allK D → p.2.size ≤ 16 ∧ p.2.size ≤ maxLen ∧ ∃ n i, inN n i ∧ p.1 = lkey n i) ∧ (allK D).length ≤ 256000 := by
  have ln : ∀ n : Int, (pcO (D n)).length ≤ 256 := fun n => pcO_len (D n) (fun d hd => hz n d hd)
  constructor
  · intro p hp
    obtain ⟨n, hn, hp⟩ := flat_mem.1 hp
    obtain ⟨t, ht, rfl⟩ := rowsK_mem.1 hp
    have h16 : ((pcO (D n)).getD t ⟨#[]⟩).size ≤ 16 := pcO_16 _ _ (by rw [List.getD_eq_getElem?_getD, List.getElem?_eq_getElem ht]; exact List.getElem_mem _)
    have := ln n
    exact ⟨h16, by unfold maxLen; show ((pcO (D n)).getD t ⟨#[]⟩).size ≤ _; omega, n, t, ⟨by omega, by omega, by omega⟩, rfl⟩
  · have main : ∀ m, (flat m fun n => rowsK (n : Int) (pcO (D n)) 0).length ≤ 256 * m := by
      intro m
      induction m with
      | zero => exact Nat.le_refl 0
      | succ m ih =>
        rw [flat_succ, List.length_append, rowsK_len]
        have := ln m
        omega
    exact Nat.le_trans (main 1000) (Nat.le_refl (256 * 1000))
set_option maxRecDepth 100000 in
/-- The live rows from a key on. -/
theorem od_range {w : World} {B g b gs r M : Nat} {D : Do} {m : Nat} (h : Od w B g b gs r M D m) (k : ByteArray) (hk8 : k.size ≤ 8) (F : List Kv) (hF : (k = ⟨#[]⟩ ∧ F = allK D) ∨ ∃ t p, (allK D)[t]? = some p ∧ k = p.1 ∧ F = (allK D).drop t) :
    (allK D).Pairwise (fun x y => kL x.1 y.1) ∧ Calls Tryz.prog 34 #[.pointer (some ⟨g, 0, none⟩), .int .i64 1, .string k, .int .i64 64] w fun e w' => ∃ v, e = .returned (.tuple #[v, .int .i64 0]) ∧ KOwn w' w.heap.size v (F.take 64) ∧ Below w.heap.size w w' := by
  obtain ⟨und, pg, H, ow, lf, ids, kd, R, h1, h2, h3, h4, h5⟩ := h.lo.ex
  have hk := fun x (hx : x ∈ R) => (h2.ix.row hx).1
  have ea := all_rows h2.ix.sorted hk h5 h.sz
  generalize allK D = A at *
  have srt : (kvOf R).Pairwise fun x y => kL x.1 y.1 := by
    unfold kvOf
    rw [List.pairwise_map]
    refine List.Pairwise.imp_of_mem (fun {a b} ha hb h => ?_) (List.Pairwise.filter _ h2.ix.sorted)
    show kL a.2.key b.2.key
    rw [hk a (List.mem_filter.1 ha).1, hk b (List.mem_filter.1 hb).1]
    exact h
  rw [ea] at srt
  refine ⟨srt, (trange_any h1 (Nat.le_refl _) h2 k 64).mono ?_⟩
  rintro e w' ⟨⟨hx, -⟩ | ⟨-, v, he, ho⟩, hb⟩
  · omega
  · refine ⟨v, he, ?_, hb⟩
    have e3 : rangeL R k (64 : Int).toNat = F.take 64 := by
      have e64 : (64 : Int).toNat = 64 := rfl
      unfold rangeL
      rw [e64]
      rcases hF with ⟨rfl, rfl⟩ | ⟨t, p, hp, rfl, rfl⟩
      · rw [fromR_nil, ea]
      · rw [kv_from2 hk, ea, filter_drop2 srt hp]
    rw [← e3]
    exact ho
end Go.Proofs.YtaiiimlmkigajaaGreat
namespace Go.Proofs.YtaiiimlmkigajaaGreat
open Go.RowKit Go.Maps Go.ChangeShapes Go.WideShapes Go.ChangeAt Go.Deep

/-- Where a listing stands: so many rows done; the key to go on from, and what stands from there on. -/
def At17 (L : List Kv) (t sk : Nat) (fr : ByteArray) : Prop := (sk = 0 ∧ t = 0 ∧ fr = ⟨#[]⟩) ∨ (sk = 1 ∧ 1 ≤ t ∧ ∃ p, L[t - 1]? = some p ∧ fr = p.1)
theorem at_from {L : List Kv} {t sk : Nat} {fr : ByteArray} (h : At17 L t sk fr) : (fr = ⟨#[]⟩ ∧ L.drop (t - sk) = L) ∨ ∃ t' p, L[t']? = some p ∧ fr = p.1 ∧ L.drop (t - sk) = L.drop t' := by
  rcases h with ⟨h1, h2, h3⟩ | ⟨h1, h2, p, h3, h4⟩
  · exact .inl ⟨h3, by rw [h1, h2]; rfl⟩
  · exact .inr ⟨t - 1, p, h3, h4, by rw [h1]⟩
theorem acc_succ {L : List Kv} {t : Nat} {p : Kv} (h : L[t]? = some p) : (L.take (t + 1)).foldl addF [] = addF ((L.take t).foldl addF []) p := by
  rw [List.take_add_one, h, List.foldl_append]
  rfl
theorem gt_nil {a : ByteArray} (h : a.size = 4) : (!Op.bytesLess a.toList (⟨#[]⟩ : ByteArray).toList && !a.toList == (⟨#[]⟩ : ByteArray).toList) = true := by
  have h1 : slt a ⟨#[]⟩ = false := by
    cases e : slt a ⟨#[]⟩ with
    | false => rfl
    | true =>
      exfalso
      unfold slt at e
      rw [show (⟨#[]⟩ : ByteArray).toList = [] from by kernel_rfl] at e
      cases hl : a.toList with
      | nil => rw [hl] at e; simp [Op.bytesLess] at e
      | cons x l => rw [hl] at e; simp [Op.bytesLess] at e
  have h2 : seq a ⟨#[]⟩ = false := by
    cases e : seq a ⟨#[]⟩ with
    | false => rfl
    | true => rw [(seq_iff _ _).1 e] at h; exact absurd h (by decide)
  show (!slt a ⟨#[]⟩ && !seq a ⟨#[]⟩) = true
  rw [h1, h2]; rfl
theorem gt_lt {a b : ByteArray} (h : kL b a) : (!Op.bytesLess a.toList b.toList && !a.toList == b.toList) = true := by
  have h1 : slt a b = false := slt_asymm h
  have h2 : seq a b = false := by
    cases e : seq a b with
    | false => rfl
    | true => rw [(seq_iff _ _).1 e] at h; exact absurd h (kOrd.irr _)
  show (!slt a b && !seq a b) = true
  rw [h1, h2]; rfl
theorem gt_self (a : ByteArray) : (!Op.bytesLess a.toList a.toList && !a.toList == a.toList) = false := by
  simp
theorem at_gt {L : List Kv} {t sk j : Nat} {fr : ByteArray} {p : Kv} (h : At17 L t sk fr) (srt : L.Pairwise fun x y => kL x.1 y.1) (hk : ∀ p, p ∈ L → p.1.size = 4) (hp : L[t - sk + j]? = some p) :
    ∃ bq, (!Op.bytesLess p.1.toList fr.toList && !p.1.toList == fr.toList) = bq ∧ (bq = false → max t (t - sk + (j + 1)) = max t (t - sk + j)) ∧ (bq = true → max t (t - sk + j) = t - sk + j ∧ max t (t - sk + (j + 1)) = t - sk + j + 1) := by
  rcases h with ⟨h1, h2, h3⟩ | ⟨h1, h2, q, h3, h4⟩
  · refine ⟨true, by rw [h3]; exact gt_nil (hk p (List.mem_of_getElem? hp)), (fun h => by cases h), fun _ => ?_⟩
    omega
  · cases j with
    | zero =>
      have e : p = q := by
        have : L[t - 1]? = some p := by rw [← hp, h1]; rfl
        rw [h3] at this; injection this with this; exact this.symm
      refine ⟨false, by rw [h4, e]; exact gt_self _, fun _ => by omega, fun h => by cases h⟩
    | succ j =>
      refine ⟨true, ?_, (fun h => by cases h), fun _ => by omega⟩
      rw [h4]
      refine gt_lt ?_
      have i2 := (List.getElem?_eq_some_iff.1 hp)
      have i1 := (List.getElem?_eq_some_iff.1 h3)
      obtain ⟨l2, e2⟩ := i2
      obtain ⟨l1, e1⟩ := i1
      have := (List.pairwise_iff_getElem.1 srt) (t - 1) (t - sk + (j + 1)) l1 l2 (by omega)
      rw [e1, e2] at this
      exact this
set_option maxRecDepth 100000 in
set_option maxHeartbeats 16000000 in
theorem list17 {w : World} {B g b gs r M : Nat} {D : Do} {m : Nat} (h : Od w B g b gs r M D m) :
    Calls Tryz.prog 17 #[.pointer (some ⟨g, 0, none⟩), .int .i64 1] w fun e w' => ∃ v, e = .returned (.tuple #[v, .int .i64 0]) ∧ w'.ownsRow w.heap.size 83 3 v (objsL D).length (obL (objsL D)) ∧ Below w.heap.size w w' := by
  obtain ⟨L, hL⟩ : ∃ L, L = allK D := ⟨_, rfl⟩
  obtain ⟨f1, f2⟩ := allK_facts h.sz
  have AA := acc_all D h.sz
  have SRT := Lib.hid (od_range h ⟨#[]⟩ (by decide) (allK D) (.inl ⟨rfl, rfl⟩)).1
  rw [← hL] at f1 f2 AA SRT
  have LK := Lib.hid f1; have LL := Lib.hid f2; have AL := Lib.hid AA; have HL := Lib.hid hL
  have BD := Lib.hid (accL_bd (fun p hp => (f1 p hp).1))
  have OD := Lib.hid h
  obtain ⟨ob, hob⟩ : ∃ ob, ob = objsL D := ⟨_, rfl⟩
  rw [← hob]
  have OB := Lib.hid hob
  clear h hL f1 f2 AA hob
  go_enter Tryz.func17, Tryz.ntmps17
  go_wp2_with fail
  go_loopg [6, 7] (L.length + 1) (fun gk ls fv wr => ∃ (t sk : Nat) (fr : ByteArray), fv = .string fr ∧ At17 L t sk fr ∧ t + gk = L.length + 1 ∧ 1 ≤ gk ∧ wr.ownsRow w.heap.size 83 3 ls ((L.take t).foldl addF []).length (obL ((L.take t).foldl addF [])) ∧ Below w.heap.size w wr)
  case atStart => exact ⟨0, 0, ⟨#[]⟩, rfl, .inl ⟨rfl, rfl, rfl⟩, by omega, by omega, World.ownsRow_nil _ _ _ _, Below.refl _ _⟩
  case round =>
    obtain ⟨t, sk, fr, rfl, hat, hgk, hg1, ho, hb⟩ := hrel
    obtain ⟨n, hn⟩ : ∃ n, n = ((L.take t).foldl addF []).length := ⟨_, rfl⟩
    rw [← hn] at ho
    obtain ⟨la, lc, rfl⟩ := ow_slice ho
    have AT := Lib.hid hat; have GK := Lib.hid (And.intro hgk hg1); have O := Lib.hid ho; have BW := Lib.hid hb; have NN := Lib.hid hn
    obtain ⟨F, hF⟩ : ∃ F, F = L.drop (t - sk) := ⟨_, rfl⟩
    have FF := Lib.hid hF
    have fr8 : fr.size ≤ 8 := by
      rcases hat with ⟨-, -, h3⟩ | ⟨-, -, p, h3, h4⟩
      · rw [h3]; decide
      · obtain ⟨-, -, n, i, -, e⟩ := LK.out p (List.mem_of_getElem? h3)
        rw [h4, e, lkey_size]; decide
    have CR := Lib.hid (od_range (OD.out.kept BW.out) fr fr8 F (by
      rw [hF, ← HL.out]
      exact at_from hat)).2
    clear hat hgk hg1 ho hb hn hF fr8
    as_aux_lemma =>
      go_wp2_with fail
      refine CR.out.mono ?_
      rintro e w2 ⟨pv, rfl, hk, hb⟩
      obtain ⟨pn, hpn⟩ : ∃ pn, pn = (F.take 64).length := ⟨_, rfl⟩
      have K2 := hk
      unfold KOwn at K2
      rw [← hpn] at K2
      obtain ⟨pa, pc, rfl⟩ := ow_slice K2
      have PL := Lib.hid (show pn = min 64 (L.length - (t - sk)) by rw [hpn, List.length_take, FF.out, List.length_drop])
      have PN := Lib.hid hpn
      have PR := Lib.hid (show ∀ j, j < pn → (F.take 64)[j]? = L[t - sk + j]? from fun j hj => by rw [List.getElem?_take, if_pos (by have := PL.out; omega), FF.out, List.getElem?_drop])
      have HK := Lib.hid K2
      have B2 := Lib.hid (below_then BW.out hb BW.out.size); have O2 := Lib.hid (ow_kept O.out hb)
      have p64 : pn ≤ 64 := by have := PL.out; omega
      obtain ⟨P0, hP0⟩ : ∃ P0, P0 = wr.heap.size := ⟨_, rfl⟩
      have P0G := Lib.hid (show w.heap.size ≤ P0 ∧ P0 ≤ w2.heap.size from by rw [hP0]; exact ⟨BW.out.size, hb.size⟩)
      have LB := Lib.hid (show ∀ q, (Value.slice la n lc).ownBlock = some q → q < P0 from fun q hq => by rw [hP0]; exact (ow_blk O.out hq).2.1)
      rw [← hP0] at HK
      have PB := Lib.hid (show ∀ q, (Value.slice pa pn pc).ownBlock = some q → P0 ≤ q ∧ q < w2.heap.size from fun q hq => ⟨(ow_blk HK.out hq).1, (ow_blk HK.out hq).2.1⟩)
      obtain ⟨KL, hKL⟩ : ∃ KL, KL = kvL (F.take 64) := ⟨_, rfl⟩
      have KLH := Lib.hid hKL
      rw [← hKL] at HK
      clear hk K2 hb CR BW O hpn hP0 hKL
      as_aux_lemma =>
        go_upto_region 7 with fail
        go_loopw [6, 24] (fun ls iv wv => ∃ (j : Nat), iv = .int .i64 j ∧ j ≤ pn ∧ wv.ownsRow w.heap.size 83 3 ls ((L.take (max t (t - sk + j))).foldl addF []).length (obL ((L.take (max t (t - sk + j))).foldl addF [])) ∧ wv.ownsRow P0 83 3 (.slice pa pn pc) pn KL ∧ Below w.heap.size w wv ∧ w2.heap.size ≤ wv.heap.size ∧ ∀ q, ls.ownBlock = some q → q < P0 ∨ w2.heap.size ≤ q) (fun _ iv _ => pn - (RowKit.intOf iv).toNat)
        case atStart => exact ⟨0, rfl, Nat.zero_le _, by rw [show max t (t - sk + 0) = t by omega, ← NN.out]; exact O2.out, HK.out, B2.out, Nat.le_refl _, fun q hq => .inl (LB.out q hq)⟩
        case round =>
          clear O2 B2 HK
          obtain ⟨j, rfl, hj, ho, hk, hb, hs, hq⟩ := hrel
          obtain ⟨x, hx⟩ : ∃ x, x = max t (t - sk + j) := ⟨_, rfl⟩
          rw [← hx] at ho
          obtain ⟨m, hm⟩ : ∃ m, m = ((L.take x).foldl addF []).length := ⟨_, rfl⟩
          rw [← hm] at ho
          obtain ⟨va, vc, rfl⟩ := ow_slice ho
          have XX := Lib.hid hx; have MM := Lib.hid hm; have J := Lib.hid hj
          have O := Lib.hid ho; have HK := Lib.hid hk; have BW := Lib.hid hb; have SZ := Lib.hid hs; have QB := Lib.hid hq
          clear hx hm ho hk hb hs hq NN
          by_cases hlt : j < pn
          · have HLT := Lib.hid hlt
            obtain ⟨p, hp⟩ : ∃ p, (F.take 64)[j]? = some p := ⟨_, List.getElem?_eq_getElem (by rw [← PN.out]; exact hlt)⟩
            obtain ⟨g2, pc', e1, hrow⟩ := kv_at (l := F.take 64) (by rw [← KLH.out]; exact HK.out) hlt hp
            obtain ⟨rfl, rfl⟩ : pa = some ⟨g2, 0, none⟩ ∧ pc = pc' := by injection e1 with a1 _ a2; exact ⟨a1, a2⟩
            have LP := Lib.hid (show L[t - sk + j]? = some p by rw [← PR.out j hlt]; exact hp)
            have x0 : wr.cell? ⟨g2, j * 3, none⟩ = some (.string p.1) := hrow 0 _ rfl
            have x1 : wr.cell? ⟨g2, j * 3 + 1, none⟩ = some (.int .i64 0) := hrow 1 _ rfl
            have x2 : wr.cell? ⟨g2, j * 3 + 2, none⟩ = some (.string p.2) := hrow 2 _ rfl
            have hlti : (j : Int) < (pn : Int) := by omega
            have tb : j < 9223372036854775807 := by omega
            clear hp e1 hrow hlt hj
            as_aux_lemma =>
              go_upto_region 9 with fail
              have BB : Below wr.heap.size wr (wr.alloc (.cells #[.string p.1, .int .i64 0, .string p.2] 83)) := (Below.refl _ _).alloc (Nat.le_refl _) _
              have B5 := Lib.hid (below_then BW.out BB BW.out.size); have O5 := Lib.hid (ow_kept O.out BB); have HK5 := Lib.hid (ow_kept HK.out BB); have SZ5 := Lib.hid (Nat.le_trans SZ.out BB.size)
              have KP := Lib.hid (Bk.new wr 83 #[.string p.1, .int .i64 0, .string p.2])
              obtain ⟨G5, hG5⟩ : ∃ G5, G5 = wr.heap.size := ⟨_, rfl⟩
              rw [← hG5] at KP ⊢
              clear BB x0 x1 x2 BW O HK hG5 SZ
              generalize wr.alloc (.cells #[.string p.1, .int .i64 0, .string p.2] 83) = w5 at *
              have y0 : w5.cell? ⟨G5, 0, none⟩ = some (.string p.1) := KP.out.cell 0
              have y1 : w5.cell? ⟨G5, 1, none⟩ = some (.int .i64 0) := KP.out.cell 1
              have y2 : w5.cell? ⟨G5, 2, none⟩ = some (.string p.2) := KP.out.cell 2
              obtain ⟨p16, -, n7, i7, hni, hpe⟩ := LK.out p (List.mem_of_getElem? LP.out)
              obtain ⟨bq, hbq, q1, q2⟩ := at_gt AT.out SRT.out (fun p hp => by
                obtain ⟨-, -, n, i, -, e⟩ := LK.out p hp
                rw [e, lkey_size]) LP.out
              have Q1 := Lib.hid q1; have Q2 := Lib.hid q2
              have xl : x ≤ 256001 := by
                have := XX.out; have := LL.out; have := (List.getElem?_eq_some_iff.1 LP.out).1; have := GK.out
                omega
              have CA := Lib.hid (show Calls Tryz.prog 35 #[.slice va m vc, .agg #[.string p.1, .int .i64 0, .string p.2]] w5 (fun e w' => ∃ v', e = .returned v' ∧ w'.ownsRow w.heap.size 83 3 v' (addF ((L.take x).foldl addF []) p).length (obL (addF ((L.take x).foldl addF []) p)) ∧ w5.grownBy w' (Value.slice va m vc).ownBlock ∧ ∀ q, v'.ownBlock = some q → (Value.slice va m vc).ownBlock = some q ∨ w5.heap.size ≤ q) from by
                obtain ⟨d1, d2⟩ := BD.out x
                have h := add17 (.slice va m vc) ((L.take x).foldl addF []) (by rw [← MM.out]; exact O5.out) B5.out.size (by omega) n7 i7 hni p.2 (by omega) (fun z hz => by have := d2 z hz; omega)
                have e : (lkey n7 i7, p.2) = p := by rw [← hpe]
                rw [e] at h
                exact h)
              clear q1 q2 hni hpe p16 xl
              cases bq with
              | false =>
                have EX := Lib.hid (Q1.out rfl)
                clear Q1 Q2 CA
                as_aux_lemma =>
                  go_wp2
                  go_roundw
                  case rel => exact ⟨j + 1, by push_cast; rfl, by have := HLT.out; omega, by rw [EX.out, ← XX.out, ← MM.out]; exact O5.out, HK5.out, B5.out, SZ5.out, QB.out⟩
                  case measure => have := HLT.out; simp [RowKit.intOf]; omega
              | true =>
                have EX := Lib.hid (Q2.out rfl)
                have AS := Lib.hid (show (L.take (max t (t - sk + (j + 1)))).foldl addF [] = addF ((L.take x).foldl addF []) p from by
                  obtain ⟨e1, e2⟩ := EX.out
                  rw [e2, XX.out, e1]
                  exact acc_succ LP.out)
                clear Q1 Q2
                as_aux_lemma =>
                  go_wp2_with fail
                  refine CA.out.mono ?_
                  rintro e w6 ⟨v6, rfl, ho, hg, hq⟩
                  have HK6 := Lib.hid (ow_same HK5.out fun k hk => by
                    obtain ⟨a1, a2⟩ := PB.out k hk
                    refine hg.block k (by have := SZ5.out; omega) (fun e => ?_)
                    have := QB.out k e.symm
                    omega)
                  have B6 := Lib.hid (bl_grow B5.out hg (fun k hk => (ow_blk O5.out hk).1) B5.out.size)
                  have S6 := Lib.hid (Nat.le_trans SZ5.out hg.size)
                  have Q6 := Lib.hid (show ∀ q, v6.ownBlock = some q → q < P0 ∨ w2.heap.size ≤ q from fun q h => (hq q h).elim (fun e => QB.out q e) fun e => .inr (Nat.le_trans SZ5.out e))
                  have O6 := Lib.hid ho
                  clear ho hg hq CA HK5 O5 B5
                  as_aux_lemma =>
                    go_wp2
                    go_roundw
                    case rel => exact ⟨j + 1, by push_cast; rfl, by have := HLT.out; omega, by rw [AS.out]; exact O6.out, HK6.out, B6.out, S6.out, Q6.out⟩
                    case measure => have := HLT.out; simp [RowKit.intOf]; omega
          · obtain rfl : j = pn := by omega
            have hni : ¬ (j : Int) < (j : Int) := by omega
            by_cases c64 : j < 64
            · have ci : (j : Int) < 64 := by omega
              have FIN := Lib.hid (show wr.ownsRow w.heap.size 83 3 (.slice va m vc) ob.length (obL ob) from by
                have e : x = L.length := by
                  have := XX.out; have := PL.out; have := GK.out
                  rcases AT.out with ⟨a1, a2, -⟩ | ⟨a1, a2, -⟩ <;> omega
                have e2 : (L.take x).foldl addF [] = ob := by rw [e, List.take_length, AL.out, ← OB.out]
                rw [← e2, ← MM.out]
                exact O.out)
              clear hlt c64
              as_aux_lemma =>
                go_wp2
                refine bodyPost_ret (v := .tuple #[.slice va m vc, .int .i64 0]) (by simp [results, Tryz.results17, go_sem]) rfl ?_
                exact ⟨_, rfl, FIN.out, BW.out⟩
            · obtain rfl : j = 64 := by omega
              obtain ⟨p, hp⟩ : ∃ p, (F.take 64)[63]? = some p := ⟨_, List.getElem?_eq_getElem (by rw [← PN.out]; decide)⟩
              obtain ⟨g2, pc', e1, hrow⟩ := kv_at (l := F.take 64) (by rw [← KLH.out]; exact HK.out) (by decide : 63 < 64) hp
              obtain ⟨rfl, rfl⟩ : pa = some ⟨g2, 0, none⟩ ∧ pc = pc' := by injection e1 with a1 _ a2; exact ⟨a1, a2⟩
              have LP := Lib.hid (show L[t - sk + 63]? = some p by rw [← PR.out 63 (by decide)]; exact hp)
              have x0 : wr.cell? ⟨g2, 189, none⟩ = some (.string p.1) := hrow 0 _ rfl
              have GT := Lib.hid (show (!Op.bytesLess p.1.toList fr.toList && !p.1.toList == fr.toList) = true from by
                obtain ⟨bq, hbq, q1, q2⟩ := at_gt AT.out SRT.out (fun p hp => by
                  obtain ⟨-, -, n, i, -, e⟩ := LK.out p hp
                  rw [e, lkey_size]) LP.out
                cases bq with
                | true => exact hbq
                | false =>
                  exfalso
                  have := q1 rfl
                  rcases AT.out with ⟨a1, a2, -⟩ | ⟨a1, a2, -⟩ <;> omega)
              have g1 : Op.bytesLess p.1.toList fr.toList = false := by
                cases e : Op.bytesLess p.1.toList fr.toList with
                | false => rfl
                | true => have := GT.out; rw [e] at this; exact absurd this (by simp)
              have g3 : (p.1.toList == fr.toList) = false := by
                cases e : (p.1.toList == fr.toList) with
                | false => rfl
                | true => have := GT.out; rw [e] at this; exact absurd this (by simp)
              have NX := Lib.hid (show ∃ t', t' = x ∧ t - sk + 64 = t' ∧ 1 ≤ t' ∧ L[t' - 1]? = some p ∧ t < t' ∧ t' ≤ L.length from by
                have l1 := (List.getElem?_eq_some_iff.1 LP.out).1
                refine ⟨t - sk + 64, ?_, rfl, by omega, LP.out, ?_, by omega⟩
                · have := XX.out
                  rcases AT.out with ⟨a1, a2, -⟩ | ⟨a1, a2, -⟩ <;> omega
                · rcases AT.out with ⟨a1, a2, -⟩ | ⟨a1, a2, -⟩ <;> omega)
              clear hp e1 hrow hlt c64 hj hni
              as_aux_lemma =>
                go_upto_region 14 with fail
                obtain ⟨t', n1, n2, n3, n4, n5, n6⟩ := NX.out
                have AT2 := Lib.hid (show At17 L t' 1 p.1 from .inr ⟨rfl, n3, p, n4, rfl⟩)
                have N6 := Lib.hid (And.intro n5 n6)
                have O7 := Lib.hid (show wr.ownsRow w.heap.size 83 3 (.slice va m vc) ((L.take t').foldl addF []).length (obL ((L.take t').foldl addF [])) from by
                  rw [n1, ← MM.out]; exact O.out)
                clear n1 n2 n3 n4 n5 n6 g1 g3
                go_wp2
                go_roundg (L.length + 1 - t')
                case rel => exact ⟨t', 1, p.1, rfl, AT2.out, by have := N6.out; omega, by have := N6.out; omega, O7.out, BW.out⟩
                all_goals (have := N6.out; have := GK.out; omega)
end Go.Proofs.YtaiiimlmkigajaaGreat
namespace Go.Proofs.YtaiiimlmkigajaaGreat
open Go.RowKit Go.Maps Go.ChangeShapes Go.WideShapes Go.ChangeAt Go.Deep

theorem infoNm : (Tryz.prog.info? 3).map (fun i => (i.zero, i.size, i.bytes)) = some (some (.int .i64 0), 1, 8) := by kernel_rfl
section
variable {ops : Array Oper} {rest : List Oper} {o : Oper} {a : Act} {w : World} {Q : Exit → Act → World → Prop}
theorem slice1_nm (hg : o.guard = none) (x : Operand) (ho : o.op = .buildSlice 28 1 #[(0, x)]) (k : Int)
    (hx : a.eval x = .int .i64 k) (h : wpList Tryz.prog ops Q rest (a.put o.dst (.slice (some ⟨w.heap.size, 0, none⟩) 1 1)) (w.alloc (.cells #[.int .i64 k] 3))) : wpList Tryz.prog ops Q (o :: rest) a w := by
  obtain ⟨i0, hi0, hz0, hz1, hz2⟩ := info_parts infoNm
  refine wpList_buildSlice hg 28 3 1 #[(0, x)] ho #[.int .i64 k] i0 _ Tryz.underlying28 hi0 hz0 (by rw [hz1]; decide) (by rw [hz1]; decide) ?_ h
  rw [hz1]
  simp only [List.map_toArray, List.map_cons, List.map_nil, hx]
  kernel_rfl
theorem app_nm (hg : o.guard = none) (x y : Operand) (ho : o.op = .call { callee := .builtin .append, args := #[x, y], argTypes := #[28, 28] }) {B0 : Nat} {s : Int} {l : List Int} {n : Nat} {v : Value}
    (hx : a.eval x = v) (hy : a.eval y = .slice (some ⟨w.heap.size, 0, none⟩) 1 1) (hown : w.ownsRow B0 3 1 v n (nmL l)) (hb : B0 ≤ w.heap.size) (hl : n ≤ 1000000)
    (h : ∀ g cap w', w'.ownsRow B0 3 1 (.slice (some ⟨g, 0, none⟩) (n + 1) cap) (n + 1) (nmL (l ++ [s])) → w.grownBy w' v.ownBlock → wpList Tryz.prog ops Q rest (a.put o.dst (.slice (some ⟨g, 0, none⟩) (n + 1) cap)) w') :
    wpList Tryz.prog ops Q (o :: rest) a (w.alloc (.cells #[.int .i64 s] 3)) := by
  obtain ⟨i0, hi, hz0, hz1, hz2⟩ := info_parts infoNm
  refine wpList_append_lies (w.alloc (.cells #[.int .i64 s] 3)) hg x y 28 ho B0 3 i0 _ 1 8 Tryz.underlying28 hi hz0 hz1 hz2 rfl (by decide) v n (nmL l) hx (ow_kept hown ((Below.refl w.heap.size w).alloc (Nat.le_refl _) _)) ⟨w.heap.size, 0, none⟩ 1 1 [.int .i64 s] hy rfl (fun j u hu => ?_) (fun u hu => by rw [List.mem_singleton.1 hu]; rfl) (by decide) (by unfold maxLen; omega) (by omega) (by rw [World.size_alloc]; exact Nat.le_succ_of_le hb) _ rfl ?_
  · match j, hu with
    | 0, hu => obtain rfl : Value.int .i64 s = u := by simpa using hu
               exact (Bk.new w 3 #[.int .i64 s]).cell 0
  · intro g cap w' hown' hgrow _ _
    rw [show nmL l ++ [.int .i64 s] = nmL (l ++ [s]) by unfold nmL; rw [List.map_append]; rfl] at hown'
    exact h g cap w' hown' (World.grownBy.trans (World.grownBy_alloc w _ _) hgrow)
/-- A text more; where the row lies. -/
theorem app_tx2 (hg : o.guard = none) (x y : Operand) (ho : o.op = .call { callee := .builtin .append, args := #[x, y], argTypes := #[29, 29] }) {B0 : Nat} {s : ByteArray} {l : List ByteArray} {n : Nat} {v : Value}
    (hx : a.eval x = v) (hy : a.eval y = .slice (some ⟨w.heap.size, 0, none⟩) 1 1) (hown : w.ownsRow B0 9 1 v n (txL l)) (hb : B0 ≤ w.heap.size) (hl : n ≤ 1000000)
    (h : ∀ g cap w', w'.ownsRow B0 9 1 (.slice (some ⟨g, 0, none⟩) (n + 1) cap) (n + 1) (txL (l ++ [s])) → w.grownBy w' v.ownBlock → (v.ownBlock = some g ∨ w.heap.size ≤ g) → wpList Tryz.prog ops Q rest (a.put o.dst (.slice (some ⟨g, 0, none⟩) (n + 1) cap)) w') :
    wpList Tryz.prog ops Q (o :: rest) a (w.alloc (.cells #[.string s] 9)) := by
  obtain ⟨i0, hi, hz0, hz1, hz2⟩ := info_parts infoTx
  refine wpList_append_lies (w.alloc (.cells #[.string s] 9)) hg x y 29 ho B0 9 i0 _ 1 16 Tryz.underlying29 hi hz0 hz1 hz2 rfl (by decide) v n (txL l) hx (ow_kept hown ((Below.refl w.heap.size w).alloc (Nat.le_refl _) _)) ⟨w.heap.size, 0, none⟩ 1 1 [.string s] hy rfl (fun j u hu => ?_) (fun u hu => by rw [List.mem_singleton.1 hu]; rfl) (by decide) (by unfold maxLen; omega) (by omega) (by rw [World.size_alloc]; exact Nat.le_succ_of_le hb) _ rfl ?_
  · match j, hu with
    | 0, hu => obtain rfl : Value.string s = u := by simpa using hu
               exact (Bk.new w 9 #[.string s]).cell 0
  · intro g cap w' hown' hgrow hgg _
    rw [show txL l ++ [.string s] = txL (l ++ [s]) by rw [txL_app]; rfl] at hown'
    refine h g cap w' hown' (World.grownBy.trans (World.grownBy_alloc w _ _) hgrow) ?_
    rcases hgg with e | e
    · exact .inl e
    · exact .inr (by rw [e, World.size_alloc]; exact Nat.le_succ _)
end
theorem own_slice (g n c : Nat) : (Value.slice (some ⟨g, 0, none⟩) n c).ownBlock = some g := rfl
/-- Three rows: kinds, keys, values. -/
structure SR (w : World) (B : Nat) (kv yv vv : Value) (num : Int) (n : Nat) (ss : List St) : Prop where
  k : w.ownsRow B 3 1 kv n (nmL (ss.map (·.k)))
  y : w.ownsRow B 9 1 yv n (txL (ss.map fun s => lkey num s.i))
  v : w.ownsRow B 9 1 vv n (txL (ss.map (·.val)))
  ap : ∀ q, yv.ownBlock = some q → vv.ownBlock ≠ some q
theorem SR.kept {w w' : World} {B n : Nat} {kv yv vv : Value} {num : Int} {ss : List St} (h : SR w B kv yv vv num n ss) (hb : Below w.heap.size w w') : SR w' B kv yv vv num n ss := ⟨ow_kept h.k hb, ow_kept h.y hb, ow_kept h.v hb, h.ap⟩
set_option maxRecDepth 100000 in
set_option maxHeartbeats 24000000 in
theorem steps17r (num : Int) (hok : okN num) (fv tv : Value) (frm tos : List ByteArray) (w : World) (hf : SRow w fv frm) (ht : SRow w tv tos) (hfl : frm.length ≤ 65536) (htl : tos.length ≤ 65536) :
    Calls Tryz.prog 15 #[.int .i64 num, fv, tv] w fun e w' => ∃ kv yv vv, e = .returned (.tuple #[kv, yv, vv]) ∧ SR w' w.heap.size kv yv vv num (stepL frm tos (max frm.length tos.length)).length (stepL frm tos (max frm.length tos.length)) ∧ Below w.heap.size w w' := by
  have HN := Lib.hid (show 0 ≤ num ∧ num ≤ 65535 by unfold okN at hok; omega)
  have FR := Lib.hid hf; have TR := Lib.hid ht
  obtain ⟨fa, fc, rfl, -, -⟩ := srow_cell hf
  obtain ⟨ta, tc, rfl, -, -⟩ := srow_cell ht
  obtain ⟨fl, hfl2⟩ : ∃ fl, fl = frm.length := ⟨_, rfl⟩
  obtain ⟨tl, htl2⟩ : ∃ tl, tl = tos.length := ⟨_, rfl⟩
  have FL := Lib.hid (show fl = frm.length ∧ fl ≤ 65536 by omega)
  have TL := Lib.hid (show tl = tos.length ∧ tl ≤ 65536 by omega)
  rw [← hfl2] at FR ⊢; rw [← htl2] at TR ⊢
  obtain ⟨mx, hmx⟩ : ∃ mx, mx = max fl tl := ⟨_, rfl⟩
  have MX := Lib.hid hmx
  rw [← hmx]
  have f9 : fl ≤ 9223372036854775807 := by omega
  have t9 : tl ≤ 9223372036854775807 := by omega
  clear hok hf ht hfl htl hfl2 htl2 hmx
  go_enter Tryz.func15, Tryz.ntmps15
  go_upto_region 4 with fail
  go_loopw [9, 10, 11, 12] (fun kv yv vv iv wr => ∃ k : Nat, iv = .int .i64 k ∧ k ≤ mx ∧ SR wr w.heap.size kv yv vv num (stepL frm tos k).length (stepL frm tos k) ∧ Below w.heap.size w wr) (fun _ _ _ iv _ => mx - (RowKit.intOf iv).toNat)
  case atStart => exact ⟨0, rfl, Nat.zero_le _, ⟨World.ownsRow_nil _ _ _ _, World.ownsRow_nil _ _ _ _, World.ownsRow_nil _ _ _ _, fun q h => by simp [Value.ownBlock] at h⟩, Below.refl _ _⟩
  case round =>
    obtain ⟨k, rfl, hk, ho, hb⟩ := hrel
    obtain ⟨n, hn⟩ : ∃ n, n = (stepL frm tos k).length := ⟨_, rfl⟩
    rw [← hn] at ho
    obtain ⟨ka, kc, rfl⟩ := ow_slice ho.k
    obtain ⟨ya, yc, rfl⟩ := ow_slice ho.y
    obtain ⟨va, vc, rfl⟩ := ow_slice ho.v
    have O1 := Lib.hid ho; have B1 := Lib.hid hb; have NL := Lib.hid hn
    have MXB := Lib.hid (show mx ≤ 65536 by rw [MX.out]; have := FL.out; have := TL.out; omega)
    have KN := Lib.hid (show n ≤ 65536 ∧ k ≤ mx from ⟨by rw [hn]; have := stepL_len frm tos k; have := MXB.out; omega, hk⟩)
    clear ho hb hn hk
    by_cases hlt : k < mx
    · have kb : k < 9223372036854775807 := by have := MXB.out; omega
      have HLT := Lib.hid hlt
      have T2 := Lib.hid (TR.out.kept B1.out); have F2 := Lib.hid (FR.out.kept B1.out)
      obtain ⟨K, hK⟩ : ∃ K, K = lkey num k := ⟨_, rfl⟩
      have CK := Lib.hid (show ∀ wx, Calls Tryz.prog 30 #[.int .i64 num, .int .i64 (k : Int)] wx fun e w' => e = .returned (.string K) ∧ Below wx.heap.size wx w' from fun wx => by rw [hK]; exact refKey_any num k wx HN.out (by have := MXB.out; omega))
      have HK := Lib.hid hK
      have NB := Lib.hid (show n ≤ 1000000 by have := KN.out; omega)
      have REL := Lib.hid (show ∀ (s : St) (kv yv vv : Value) (wz : World), stepL frm tos k ++ [s] = stepL frm tos (k + 1) → s.i = k → wz.ownsRow w.heap.size 3 1 kv (n + 1) (nmL ((stepL frm tos k).map (·.k) ++ [s.k])) → wz.ownsRow w.heap.size 9 1 yv (n + 1) (txL (((stepL frm tos k).map fun s => lkey num s.i) ++ [K])) → wz.ownsRow w.heap.size 9 1 vv (n + 1) (txL ((stepL frm tos k).map (·.val) ++ [s.val])) → (∀ q, yv.ownBlock = some q → vv.ownBlock ≠ some q) → Below w.heap.size w wz →
        ∃ q : Nat, Value.int .i64 ((k : Int) + 1) = .int .i64 q ∧ q ≤ mx ∧ SR wz w.heap.size kv yv vv num (stepL frm tos q).length (stepL frm tos q) ∧ Below w.heap.size w wz from fun s kv yv vv wz h1 h2 h3 h4 h5 h6 h7 => by
        have e1 : (stepL frm tos (k + 1)).length = n + 1 := by rw [← h1, List.length_append, ← NL.out]; rfl
        refine ⟨k + 1, by push_cast; rfl, by omega, ?_, h7⟩
        rw [e1]
        rw [← h1]
        refine ⟨?_, ?_, ?_, h6⟩
        · rw [List.map_append]; exact h3
        · rw [List.map_append]
          have : (List.map (fun s => lkey num (s.i : Int)) [s]) = [K] := by rw [hK]; show [lkey num (s.i : Int)] = _; rw [h2]
          rw [this]; exact h4
        · rw [List.map_append]; exact h5)
      clear hK
      by_cases c1 : tl ≤ k
      · have c1i : (tl : Int) ≤ (k : Int) := by omega
        have c2 : ¬ (k : Int) < (tl : Int) := by omega
        have c3 : (k : Int) < (fl : Int) := by have := MX.out; omega
        have EA := Lib.hid (show stepL frm tos k ++ [⟨16, k, ⟨#[]⟩⟩] = stepL frm tos (k + 1) by rw [stepL_succ]; unfold stepAt; rw [if_pos (by rw [← TL.out.1]; exact c1)])
        clear hlt
        as_aux_lemma =>
          have OK1 := Lib.hid O1.out.k; have OY1 := Lib.hid O1.out.y; have OV1 := Lib.hid O1.out.v; have AP := Lib.hid O1.out.ap; have B2 := Lib.hid B1.out
          clear O1 B1
          go_wp2_with (first | (refine slice1_nm rfl _ rfl 16 rfl ?_) | (refine app_nm rfl _ _ rfl (B0 := w.heap.size) (s := 16) (l := (stepL frm tos k).map (·.k)) (n := n) (v := .slice ka n kc) rfl rfl OK1.out B2.out.size NB.out ?_; intro g3 cap3 w3 hown hgr; (have K3 := Lib.hid hown); (have Y3 := Lib.hid (ow_other OY1.out OK1.out hgr (by decide))); (have V3 := Lib.hid (ow_other OV1.out OK1.out hgr (by decide))); (have B3 := Lib.hid (bl_grow B2.out hgr (fun z hz => (ow_blk OK1.out hz).1) B2.out.size)); clear hown hgr OK1 OY1 OV1 B2))
          refine (CK.out _).mono ?_
          rintro e w4 ⟨rfl, hb⟩
          have K4 := Lib.hid (ow_kept K3.out hb); have Y4 := Lib.hid (ow_kept Y3.out hb); have V4 := Lib.hid (ow_kept V3.out hb); have B4 := Lib.hid (below_then B3.out hb B3.out.size)
          clear hb K3 Y3 V3 B3
          as_aux_lemma =>
            go_wp2_with (first
              | (refine slice1_tx rfl _ rfl K rfl ?_)
              | (refine app_tx2 rfl _ _ rfl (B0 := w.heap.size) (s := K) (l := (stepL frm tos k).map fun s => lkey num s.i) (n := n) (v := .slice ya n yc) rfl rfl Y4.out B4.out.size NB.out ?_; intro g5 cap5 w5 hown hgr hgg; (have Y5 := Lib.hid hown); (have K5 := Lib.hid (ow_other K4.out Y4.out hgr (by decide))); (have V5 := Lib.hid (ow_same V4.out (fun q hq => hgr.block q (ow_blk V4.out hq).2.1 (fun e => AP.out q e.symm hq)))); (have A5 := Lib.hid (show ∀ q, (Value.slice va n vc).ownBlock = some q → q ≠ g5 from fun q hq e => by
                  rcases hgg with h | h
                  · exact AP.out g5 h (by rw [← e]; exact hq)
                  · have := (ow_blk V4.out hq).2.1; omega)); (have B5 := Lib.hid (bl_grow B4.out hgr (fun z hz => (ow_blk Y4.out hz).1) B4.out.size)); clear hown hgr hgg K4 Y4 V4 B4)
              | (refine slice1_tx rfl _ rfl ⟨#[]⟩ rfl ?_)
              | (refine app_tx2 rfl _ _ rfl (B0 := w.heap.size) (s := ⟨#[]⟩) (l := (stepL frm tos k).map (·.val)) (n := n) (v := .slice va n vc) rfl rfl V5.out B5.out.size NB.out ?_; intro g6 cap6 w6 hown hgr hgg; (have V6 := Lib.hid hown); (have K6 := Lib.hid (ow_other K5.out V5.out hgr (by decide))); (have Y6 := Lib.hid (ow_same Y5.out (fun q hq => hgr.block q (ow_blk Y5.out hq).2.1 (fun e => A5.out q e.symm (by rw [own_slice] at hq; injection hq with hq; exact hq.symm))))); (have A6 := Lib.hid (show g5 ≠ g6 from fun e => by
                  rcases hgg with h | h
                  · exact A5.out g6 h e.symm
                  · have := (ow_blk Y5.out (own_slice g5 (n + 1) cap5)).2.1; omega)); (have B6 := Lib.hid (bl_grow B5.out hgr (fun z hz => (ow_blk V5.out hz).1) B5.out.size)); clear hown hgr hgg K5 Y5 V5 B5))
            go_roundw
            case rel => exact REL.out ⟨16, k, ⟨#[]⟩⟩ _ _ _ _ EA.out rfl K6.out Y6.out V6.out (fun q hq h => by rw [own_slice] at hq h; injection hq with hq; injection h with h; exact A6.out (hq.trans h.symm)) B6.out
            case measure => have := HLT.out; simp [RowKit.intOf]; omega
      have c1i : ¬ (tl : Int) ≤ (k : Int) := by omega
      have ktl : (k : Int) < (tl : Int) := by omega
      obtain ⟨tv, htv⟩ : ∃ tv, tv = tos.getD k ⟨#[]⟩ := ⟨_, rfl⟩
      obtain ⟨ta', tc', te, -, tcel⟩ := srow_cell T2.out
      obtain ⟨tb, toff, rfl, tcell⟩ : ∃ tb toff, ta = some (⟨tb, toff, none⟩ : Addr) ∧ wr.cell? ⟨tb, toff + k, none⟩ = some (.string tv) := by
        obtain ⟨b, off, e1, e2⟩ := tcel k (by rw [← TL.out.1]; omega)
        rw [← TL.out.1] at te
        injection te with te
        exact ⟨b, off, by rw [te]; exact e1, by rw [htv]; exact e2⟩
      clear te tcel
      by_cases c2 : fl ≤ k
      · have c2i : (fl : Int) ≤ (k : Int) := by omega
        have c2n : ¬ (k : Int) < (fl : Int) := by omega
        have EA := Lib.hid (show stepL frm tos k ++ [⟨13, k, tv⟩] = stepL frm tos (k + 1) by rw [stepL_succ]; unfold stepAt; rw [if_neg (by rw [← TL.out.1]; exact c1), if_pos (by rw [← FL.out.1]; exact c2), ← htv])
        clear htv hlt
        as_aux_lemma =>
          have OK1 := Lib.hid O1.out.k; have OY1 := Lib.hid O1.out.y; have OV1 := Lib.hid O1.out.v; have AP := Lib.hid O1.out.ap; have B2 := Lib.hid B1.out
          clear O1 B1
          go_wp2_with (first | (refine slice1_nm rfl _ rfl 13 rfl ?_) | (refine app_nm rfl _ _ rfl (B0 := w.heap.size) (s := 13) (l := (stepL frm tos k).map (·.k)) (n := n) (v := .slice ka n kc) rfl rfl OK1.out B2.out.size NB.out ?_; intro g3 cap3 w3 hown hgr; (have K3 := Lib.hid hown); (have Y3 := Lib.hid (ow_other OY1.out OK1.out hgr (by decide))); (have V3 := Lib.hid (ow_other OV1.out OK1.out hgr (by decide))); (have B3 := Lib.hid (bl_grow B2.out hgr (fun z hz => (ow_blk OK1.out hz).1) B2.out.size)); clear hown hgr OK1 OY1 OV1 B2))
          refine (CK.out _).mono ?_
          rintro e w4 ⟨rfl, hb⟩
          have K4 := Lib.hid (ow_kept K3.out hb); have Y4 := Lib.hid (ow_kept Y3.out hb); have V4 := Lib.hid (ow_kept V3.out hb); have B4 := Lib.hid (below_then B3.out hb B3.out.size)
          clear hb K3 Y3 V3 B3
          as_aux_lemma =>
            go_wp2_with (first
              | (refine slice1_tx rfl _ rfl K rfl ?_)
              | (refine app_tx2 rfl _ _ rfl (B0 := w.heap.size) (s := K) (l := (stepL frm tos k).map fun s => lkey num s.i) (n := n) (v := .slice ya n yc) rfl rfl Y4.out B4.out.size NB.out ?_; intro g5 cap5 w5 hown hgr hgg; (have Y5 := Lib.hid hown); (have K5 := Lib.hid (ow_other K4.out Y4.out hgr (by decide))); (have V5 := Lib.hid (ow_same V4.out (fun q hq => hgr.block q (ow_blk V4.out hq).2.1 (fun e => AP.out q e.symm hq)))); (have A5 := Lib.hid (show ∀ q, (Value.slice va n vc).ownBlock = some q → q ≠ g5 from fun q hq e => by
                  rcases hgg with h | h
                  · exact AP.out g5 h (by rw [← e]; exact hq)
                  · have := (ow_blk V4.out hq).2.1; omega)); (have B5 := Lib.hid (bl_grow B4.out hgr (fun z hz => (ow_blk Y4.out hz).1) B4.out.size)); clear hown hgr hgg K4 Y4 V4 B4)
              | (refine slice1_tx rfl _ rfl tv rfl ?_)
              | (refine app_tx2 rfl _ _ rfl (B0 := w.heap.size) (s := tv) (l := (stepL frm tos k).map (·.val)) (n := n) (v := .slice va n vc) rfl rfl V5.out B5.out.size NB.out ?_; intro g6 cap6 w6 hown hgr hgg; (have V6 := Lib.hid hown); (have K6 := Lib.hid (ow_other K5.out V5.out hgr (by decide))); (have Y6 := Lib.hid (ow_same Y5.out (fun q hq => hgr.block q (ow_blk Y5.out hq).2.1 (fun e => A5.out q e.symm (by rw [own_slice] at hq; injection hq with hq; exact hq.symm))))); (have A6 := Lib.hid (show g5 ≠ g6 from fun e => by
                  rcases hgg with h | h
                  · exact A5.out g6 h e.symm
                  · have := (ow_blk Y5.out (own_slice g5 (n + 1) cap5)).2.1; omega)); (have B6 := Lib.hid (bl_grow B5.out hgr (fun z hz => (ow_blk V5.out hz).1) B5.out.size)); clear hown hgr hgg K5 Y5 V5 B5))
            go_roundw
            case rel => exact REL.out ⟨13, k, tv⟩ _ _ _ _ EA.out rfl K6.out Y6.out V6.out (fun q hq h => by rw [own_slice] at hq h; injection hq with hq; injection h with h; exact A6.out (hq.trans h.symm)) B6.out
            case measure => have := HLT.out; simp [RowKit.intOf]; omega
      have c2i : ¬ (fl : Int) ≤ (k : Int) := by omega
      have kfl : (k : Int) < (fl : Int) := by omega
      obtain ⟨fv, hfv⟩ : ∃ fv, fv = frm.getD k ⟨#[]⟩ := ⟨_, rfl⟩
      obtain ⟨fa', fc', fe, -, fcel⟩ := srow_cell F2.out
      obtain ⟨fb, foff, rfl, fcell⟩ : ∃ fb foff, fa = some (⟨fb, foff, none⟩ : Addr) ∧ wr.cell? ⟨fb, foff + k, none⟩ = some (.string fv) := by
        obtain ⟨b, off, e1, e2⟩ := fcel k (by rw [← FL.out.1]; omega)
        rw [← FL.out.1] at fe
        injection fe with fe
        exact ⟨b, off, by rw [fe]; exact e1, by rw [hfv]; exact e2⟩
      clear fe fcel
      have EB := Lib.hid (show stepAt frm tos k = if fv = tv then [] else [⟨15, k, tv⟩] by unfold stepAt; rw [if_neg (by rw [← TL.out.1]; exact c1), if_neg (by rw [← FL.out.1]; exact c2), ← htv, ← hfv])
      clear htv hfv hlt
      by_cases c3 : fv = tv
      · subst c3
        have EA := Lib.hid (show stepL frm tos k = stepL frm tos (k + 1) by rw [stepL_succ, EB.out, if_pos rfl, List.append_nil])
        have ee : (fv.toList == fv.toList) = true := by simp
        clear EB
        as_aux_lemma =>
          go_upto_region 13 with fail
          go_quiet (fail)
          have B4 := Lib.hid (below_drewN B1.out nq); have O4 := Lib.hid (O1.out.kept (below_drewN (Below.refl wr.heap.size wr) nq))
          generalize wr.drewN nq = w9 at *
          go_wp2
          go_roundw
          case rel => exact ⟨k + 1, by push_cast; rfl, by have := HLT.out; omega, by rw [← EA.out, ← NL.out]; exact O4.out, B4.out⟩
          case measure => have := HLT.out; simp [RowKit.intOf]; omega
      · have EA := Lib.hid (show stepL frm tos k ++ [⟨15, k, tv⟩] = stepL frm tos (k + 1) by rw [stepL_succ, EB.out, if_neg c3])
        have ee : (fv.toList == tv.toList) = false := toL_ne c3
        clear EB c3
        as_aux_lemma =>
          go_upto_region 13 with fail
          go_quiet (fail)
          have B2 := Lib.hid (below_drewN B1.out nq); have O4 := Lib.hid (O1.out.kept (below_drewN (Below.refl wr.heap.size wr) nq))
          have t4 : (wr.drewN nq).cell? ⟨tb, toff + k, none⟩ = some (.string tv) := tcell
          have OK1 := Lib.hid O4.out.k; have OY1 := Lib.hid O4.out.y; have OV1 := Lib.hid O4.out.v; have AP := Lib.hid O4.out.ap
          generalize wr.drewN nq = w9 at *
          clear O1 B1 O4 tcell fcell
          go_wp2_with (first | (refine slice1_nm rfl _ rfl 15 rfl ?_) | (refine app_nm rfl _ _ rfl (B0 := w.heap.size) (s := 15) (l := (stepL frm tos k).map (·.k)) (n := n) (v := .slice ka n kc) rfl rfl OK1.out B2.out.size NB.out ?_; intro g3 cap3 w3 hown hgr; (have K3 := Lib.hid hown); (have Y3 := Lib.hid (ow_other OY1.out OK1.out hgr (by decide))); (have V3 := Lib.hid (ow_other OV1.out OK1.out hgr (by decide))); (have B3 := Lib.hid (bl_grow B2.out hgr (fun z hz => (ow_blk OK1.out hz).1) B2.out.size)); clear hown hgr OK1 OY1 OV1 B2))
          refine (CK.out _).mono ?_
          rintro e w4 ⟨rfl, hb⟩
          have K4 := Lib.hid (ow_kept K3.out hb); have Y4 := Lib.hid (ow_kept Y3.out hb); have V4 := Lib.hid (ow_kept V3.out hb); have B4 := Lib.hid (below_then B3.out hb B3.out.size)
          clear hb K3 Y3 V3 B3
          as_aux_lemma =>
            go_wp2_with (first
              | (refine slice1_tx rfl _ rfl K rfl ?_)
              | (refine app_tx2 rfl _ _ rfl (B0 := w.heap.size) (s := K) (l := (stepL frm tos k).map fun s => lkey num s.i) (n := n) (v := .slice ya n yc) rfl rfl Y4.out B4.out.size NB.out ?_; intro g5 cap5 w5 hown hgr hgg; (have Y5 := Lib.hid hown); (have K5 := Lib.hid (ow_other K4.out Y4.out hgr (by decide))); (have V5 := Lib.hid (ow_same V4.out (fun q hq => hgr.block q (ow_blk V4.out hq).2.1 (fun e => AP.out q e.symm hq)))); (have A5 := Lib.hid (show ∀ q, (Value.slice va n vc).ownBlock = some q → q ≠ g5 from fun q hq e => by
                  rcases hgg with h | h
                  · exact AP.out g5 h (by rw [← e]; exact hq)
                  · have := (ow_blk V4.out hq).2.1; omega)); (have B5 := Lib.hid (bl_grow B4.out hgr (fun z hz => (ow_blk Y4.out hz).1) B4.out.size)); clear hown hgr hgg K4 Y4 V4 B4)
              | (refine slice1_tx rfl _ rfl tv rfl ?_)
              | (refine app_tx2 rfl _ _ rfl (B0 := w.heap.size) (s := tv) (l := (stepL frm tos k).map (·.val)) (n := n) (v := .slice va n vc) rfl rfl V5.out B5.out.size NB.out ?_; intro g6 cap6 w6 hown hgr hgg; (have V6 := Lib.hid hown); (have K6 := Lib.hid (ow_other K5.out V5.out hgr (by decide))); (have Y6 := Lib.hid (ow_same Y5.out (fun q hq => hgr.block q (ow_blk Y5.out hq).2.1 (fun e => A5.out q e.symm (by rw [own_slice] at hq; injection hq with hq; exact hq.symm))))); (have A6 := Lib.hid (show g5 ≠ g6 from fun e => by
                  rcases hgg with h | h
                  · exact A5.out g6 h e.symm
                  · have := (ow_blk Y5.out (own_slice g5 (n + 1) cap5)).2.1; omega)); (have B6 := Lib.hid (bl_grow B5.out hgr (fun z hz => (ow_blk V5.out hz).1) B5.out.size)); clear hown hgr hgg K5 Y5 V5 B5))
            go_roundw
            case rel => exact REL.out ⟨15, k, tv⟩ _ _ _ _ EA.out rfl K6.out Y6.out V6.out (fun q hq h => by rw [own_slice] at hq h; injection hq with hq; injection h with h; exact A6.out (hq.trans h.symm)) B6.out
            case measure => have := HLT.out; simp [RowKit.intOf]; omega
    · obtain rfl : k = mx := by have := KN.out; omega
      have hni1 : ¬ (k : Int) < (fl : Int) := by have := MX.out; omega
      have hni2 : ¬ (k : Int) < (tl : Int) := by have := MX.out; omega
      clear hlt
      as_aux_lemma =>
        go_wp2
        refine bodyPost_ret (v := .tuple #[.slice ka n kc, .slice ya n yc, .slice va n vc]) (by simp [results, Tryz.results15, go_sem]) rfl ?_
        exact ⟨_, _, _, rfl, by rw [← NL.out]; exact O1.out, B1.out⟩
end Go.Proofs.YtaiiimlmkigajaaGreat
namespace Go.Proofs.YtaiiimlmkigajaaGreat
open Go.RowKit Go.Maps Go.ChangeShapes Go.WideShapes Go.ChangeAt Go.Deep

set_option maxRecDepth 100000 in
set_option maxHeartbeats 4000000 in
theorem read17 {w : World} {G : Nat} {l : List Ob} {D : Do} (h : Rf w G l) (hd : RD l D) (hs : ∀ n d, D n = some d → d.size ≤ 4096) (num at_ n : Int) : Calls Tryz.prog 9 #[.pointer (some ⟨G, 0, none⟩), .int .i64 num, .int .i64 at_, .int .i64 n] w fun e w' => e = .returned (.tuple #[.string (rdD D num at_ n).1, .int .i64 (rdD D num at_ n).2]) ∧ w' = w := by
  have CL := Lib.hid (get17 h hd num)
  have SZ := Lib.hid (dtD_size hs num)
  clear h hd hs
  obtain ⟨rs, hrs⟩ : ∃ rs, rs = (rdD D num at_ n).1 := ⟨_, rfl⟩
  obtain ⟨re, hre⟩ : ∃ re, re = (rdD D num at_ n).2 := ⟨_, rfl⟩
  rw [← hrs, ← hre]
  unfold rdD at hrs hre
  have RS := Lib.hid hrs; have RE := Lib.hid hre
  clear hrs hre
  go_enter Tryz.func9, Tryz.ntmps9
  go_wp2_with fail
  refine CL.out.mono ?_
  rintro e w1 ⟨rfl, hw⟩
  have SS := SZ.out
  have H1 := RS.out; have H2 := RE.out
  rw [hw]
  clear RS RE SZ hw CL
  generalize dtD D num = d at *
  generalize erD D num = er at *
  by_cases c0 : er = 0
  · subst c0
    rw [if_neg (show ¬ ((0 : Int) ≠ 0) from fun h => h rfl)] at H1 H2
    have s9 : d.size ≤ 9223372036854775807 := by omega
    by_cases c1 : at_ < 0
    · rw [if_pos (.inl c1)] at H1 H2
      have H := Lib.hid (And.intro H1 H2)
      clear H1 H2
      as_aux_lemma =>
        go_wp2
        refine bodyPost_ret (v := .tuple #[.string ⟨#[]⟩, .int .i64 1]) (by simp [results, Tryz.results9, go_sem]) rfl ?_
        exact ⟨by rw [H.out.1, H.out.2], rfl⟩
    by_cases c3 : n < 0
    · rw [if_pos (.inr (.inr (.inl c3)))] at H1 H2
      have H := Lib.hid (And.intro H1 H2)
      clear H1 H2
      as_aux_lemma =>
        go_wp2
        refine bodyPost_ret (v := .tuple #[.string ⟨#[]⟩, .int .i64 1]) (by simp [results, Tryz.results9, go_sem]) rfl ?_
        exact ⟨by rw [H.out.1, H.out.2], rfl⟩
    by_cases c2 : (d.size : Int) < at_
    · rw [if_pos (.inr (.inl c2))] at H1 H2
      have H := Lib.hid (And.intro H1 H2)
      clear H1 H2
      as_aux_lemma =>
        go_wp2
        refine bodyPost_ret (v := .tuple #[.string ⟨#[]⟩, .int .i64 1]) (by simp [results, Tryz.results9, go_sem]) rfl ?_
        exact ⟨by rw [H.out.1, H.out.2], rfl⟩
    have wr1 : wrap64 ((d.size : Int) - at_) = (d.size : Int) - at_ := by unfold wrap64; omega
    by_cases c4 : (d.size : Int) - at_ < n
    · rw [if_pos (.inr (.inr (.inr c4)))] at H1 H2
      have H := Lib.hid (And.intro H1 H2)
      clear H1 H2
      as_aux_lemma =>
        go_wp2
        refine bodyPost_ret (v := .tuple #[.string ⟨#[]⟩, .int .i64 1]) (by simp [results, Tryz.results9, go_sem]) rfl ?_
        exact ⟨by rw [H.out.1, H.out.2], rfl⟩
    rw [if_neg (by omega)] at H1 H2
    obtain ⟨ka, rfl⟩ := Int.eq_ofNat_of_zero_le (show 0 ≤ at_ by omega)
    obtain ⟨kn, rfl⟩ := Int.eq_ofNat_of_zero_le (show 0 ≤ n by omega)
    have k1 : ka ≤ d.size := by omega
    have k2 : ka + kn ≤ d.size := by omega
    have k1i : (ka : Int) ≤ (d.size : Int) := by omega
    have k2i : (ka : Int) + (kn : Int) ≤ (d.size : Int) := by omega
    have wr2 : wrap64 ((ka : Int) + (kn : Int)) = (ka : Int) + (kn : Int) := by unfold wrap64; omega
    have wr3 : ((ka : Int) + (kn : Int)).toNat = ka + kn := by omega
    have H := Lib.hid (And.intro H1 H2)
    clear H1 H2
    as_aux_lemma =>
      go_wp2
      refine bodyPost_ret (v := .tuple #[.string (d.extract ka (ka + kn)), .int .i64 0]) (by simp [results, Tryz.results9, go_sem]) rfl ?_
      exact ⟨by rw [H.out.1, H.out.2]; rfl, rfl⟩
  · rw [if_pos c0] at H1 H2
    have c0b : (er != 0) = true := by simp [c0]
    have H := Lib.hid (And.intro H1 H2)
    clear c0 H1 H2
    as_aux_lemma =>
      go_wp2
      refine bodyPost_ret (v := .tuple #[.string ⟨#[]⟩, .int .i64 er]) (by simp [results, Tryz.results9, go_sem]) rfl ?_
      exact ⟨by rw [H.out.1, H.out.2], rfl⟩
def afB (x : Int × Option ByteArray) : ByteArray := x.2.getD ⟨#[]⟩
def AfP (w : World) (x : Int × Option ByteArray) (e : Ending) (w' : World) : Prop := e = .returned (.tuple #[.string (afB x), .int .i64 x.1]) ∧ Below w.heap.size w w'
theorem af_same {w w' : World} {x : Int × Option ByteArray} {s : ByteArray} {er : Int} (h1 : afB x = s) (h2 : x.1 = er) (hb : Below w.heap.size w w') : AfP w x (.returned (.tuple #[.string s, .int .i64 er])) w' := ⟨by rw [h1, h2], hb⟩
set_option maxRecDepth 100000 in
set_option maxHeartbeats 16000000 in
theorem after17 {w : World} {G : Nat} {l : List Ob} {D : Do} (h : Rf w G l) (hd : RD l D) (hs : ∀ n d, D n = some d → d.size ≤ 4096) (o : Opn) (ho : OpOk o) : Calls Tryz.prog 11 #[.pointer (some ⟨G, 0, none⟩), .agg o.cs] w (AfP w (opD D o)) := by
  have hb : Below w.heap.size w (w.alloc (.cells o.cs 33)) := (Below.refl _ _).alloc (Nat.le_refl _) _
  have CG := Lib.hid (get17 (h.kept hb) hd o.num)
  have K1 := Lib.hid (Bk.new w 33 o.cs)
  have B1 := Lib.hid hb
  have SZ := Lib.hid (dtD_size hs o.num)
  have OK := Lib.hid ho
  have RET1 := Lib.hid (show ∀ (x : Int × Option ByteArray) (s : ByteArray) (er : Int) (wx : World), opD D o = x → afB x = s → x.1 = er → Below w.heap.size w wx → AfP w (opD D o) (.returned (.tuple #[.string s, .int .i64 er])) wx from fun x s er wx h1 h2 h3 h4 => by rw [h1]; exact af_same h2 h3 h4)
  have ZD := Lib.hid (show erD D o.num = 0 → okN o.num ∧ D o.num = some (dtD D o.num) from erD_zero)
  clear h hd hs hb ho
  go_enter Tryz.func11, Tryz.ntmps11
  go_upto_region 1 with fail
  change Code.wp _ _ _ _ (w.alloc (.cells o.cs 33))
  obtain ⟨Q, hQ⟩ : ∃ Q, Q = w.heap.size := ⟨_, rfl⟩
  rw [← hQ] at K1
  rw [← hQ]
  clear hQ
  generalize w.alloc (.cells o.cs 33) = w1 at *
  have x0 : w1.cell? ⟨Q, 0, none⟩ = some (.int .i64 o.k) := K1.out.cell 0
  have x3 : w1.cell? ⟨Q, 3, none⟩ = some (.string o.val) := K1.out.cell 3
  have x4 : w1.cell? ⟨Q, 4, none⟩ = some (.int .i64 o.num) := K1.out.cell 4
  have x5 : w1.cell? ⟨Q, 5, none⟩ = some (.int .i64 o.at_) := K1.out.cell 5
  have x6 : w1.cell? ⟨Q, 6, none⟩ = some (.int .i64 o.len) := K1.out.cell 6
  as_aux_lemma =>
    go_wp2_with fail
    refine CG.out.mono ?_
    rintro e w2 ⟨rfl, hw⟩
    rw [hw]
    clear hw CG K1
    obtain ⟨d, hdd⟩ : ∃ d, d = dtD D o.num := ⟨_, rfl⟩
    obtain ⟨er, her⟩ : ∃ er, er = erD D o.num := ⟨_, rfl⟩
    have SS := SZ.out
    have HD := Lib.hid hdd; have HE := Lib.hid her
    rw [← hdd, ← her]
    rw [← hdd] at SS
    clear hdd her SZ
    have d9 : d.size ≤ 9223372036854775807 := by omega
    obtain ⟨kk, hkk⟩ : ∃ kk, kk = o.k := ⟨_, rfl⟩
    rw [← hkk] at x0
    have KK := Lib.hid hkk
    clear hkk
    by_cases k1 : kk = 18
    · subst k1
      have EO := Lib.hid (show opD D o = newD D o.num by unfold opD; rw [if_pos KK.out.symm])
      by_cases c0 : er = 0
      · subst c0
        have F := Lib.hid (RET1.out (newD D o.num) ⟨#[]⟩ 160 w1 EO.out (by obtain ⟨h1, h2⟩ := ZD.out HE.out.symm; unfold newD; rw [if_neg (not_not_intro h1), h2]; rfl) (by obtain ⟨h1, h2⟩ := ZD.out HE.out.symm; unfold newD; rw [if_neg (not_not_intro h1), h2]) B1.out)
        as_aux_lemma =>
          go_wp2
          refine bodyPost_ret (v := .tuple #[.string ⟨#[]⟩, .int .i64 160]) (by simp [results, Tryz.results11, go_sem]) rfl ?_
          exact F.out
      have c0b : (er == 0) = false := by simp [c0]
      by_cases c1 : er = 150
      · subst c1
        have F := Lib.hid (RET1.out (newD D o.num) ⟨#[]⟩ 0 w1 EO.out (by
          unfold newD
          by_cases hn : okN o.num
          · rw [if_neg (not_not_intro hn)]
            cases D o.num <;> rfl
          · rw [if_pos hn]; rfl) (by
          unfold newD
          by_cases hn : okN o.num
          · rw [if_neg (not_not_intro hn)]
            cases hd : D o.num with
            | none => rfl
            | some d => have := HE.out; rw [(er_yes hn hd).1] at this; exact absurd this (by decide)
          · have := HE.out; rw [(er_bad hn).1] at this; exact absurd this (by decide)) B1.out)
        as_aux_lemma =>
          go_wp2
          refine bodyPost_ret (v := .tuple #[.string ⟨#[]⟩, .int .i64 0]) (by simp [results, Tryz.results11, go_sem]) rfl ?_
          exact F.out
      have c1b : (er == 150) = false := by simp [c1]
      have F := Lib.hid (RET1.out (newD D o.num) ⟨#[]⟩ er w1 EO.out (by
          unfold newD
          by_cases hn : okN o.num
          · rw [if_neg (not_not_intro hn)]
            cases D o.num <;> rfl
          · rw [if_pos hn]; rfl) (by
          unfold newD
          by_cases hn : okN o.num
          · cases hd : D o.num with
            | none => have := HE.out; rw [(er_no hn hd).1] at this; exact absurd this c1
            | some d => have := HE.out; rw [(er_yes hn hd).1] at this; exact absurd this c0
          · rw [if_pos hn, HE.out, (er_bad hn).1]) B1.out)
      clear c0 c1
      as_aux_lemma =>
        go_wp2
        refine bodyPost_ret (v := .tuple #[.string ⟨#[]⟩, .int .i64 er]) (by simp [results, Tryz.results11, go_sem]) rfl ?_
        exact F.out
    have k1b : (kk == 18) = false := by simp [k1]
    by_cases c0 : er = 0
    · subst c0
      have ZE := Lib.hid (ZD.out HE.out.symm)
      by_cases k2 : kk = 21
      · subst k2
        have EO := Lib.hid (show opD D o = wrD D o.num o.at_ o.val by unfold opD; rw [← KK.out]; rfl)
        have VB : o.val.size ≤ 9223372036854775807 := by have := OK.out.val; unfold maxLen at this; omega
        have WR := Lib.hid (show wrD D o.num o.at_ o.val = (if o.at_ < 0 ∨ (d.size : Int) < o.at_ then (1, none) else if 64 < o.val.size ∨ 4096 < o.at_ + o.val.size then (2, none) else (0, some (d.extract 0 o.at_.toNat ++ o.val ++ d.extract (min (o.at_.toNat + o.val.size) d.size) d.size)) : Int × Option ByteArray) by unfold wrD; rw [if_neg (not_not_intro HE.out.symm), ← HD.out])
        generalize o.at_ = at_ at *
        generalize o.val = val at *
        clear k1
        by_cases c1 : at_ < 0
        · have F := Lib.hid (RET1.out _ ⟨#[]⟩ 1 w1 EO.out (by rw [WR.out, if_pos (.inl c1)]; rfl) (by rw [WR.out, if_pos (.inl c1)]) B1.out)
          as_aux_lemma =>
            go_wp2
            refine bodyPost_ret (v := .tuple #[.string ⟨#[]⟩, .int .i64 1]) (by simp [results, Tryz.results11, go_sem]) rfl ?_
            exact F.out
        by_cases c2 : (d.size : Int) < at_
        · have F := Lib.hid (RET1.out _ ⟨#[]⟩ 1 w1 EO.out (by rw [WR.out, if_pos (.inr c2)]; rfl) (by rw [WR.out, if_pos (.inr c2)]) B1.out)
          as_aux_lemma =>
            go_wp2
            refine bodyPost_ret (v := .tuple #[.string ⟨#[]⟩, .int .i64 1]) (by simp [results, Tryz.results11, go_sem]) rfl ?_
            exact F.out
        obtain ⟨k, rfl⟩ := Int.eq_ofNat_of_zero_le (show 0 ≤ at_ by omega)
        by_cases c3 : (64 : Int) < (val.size : Int)
        · have F := Lib.hid (RET1.out _ ⟨#[]⟩ 2 w1 EO.out (by rw [WR.out, if_neg (by omega), if_pos (.inl (by omega))]; rfl) (by rw [WR.out, if_neg (by omega), if_pos (.inl (by omega))]) B1.out)
          as_aux_lemma =>
            go_wp2
            refine bodyPost_ret (v := .tuple #[.string ⟨#[]⟩, .int .i64 2]) (by simp [results, Tryz.results11, go_sem]) rfl ?_
            exact F.out
        have wr1 : wrap64 ((k : Int) + (val.size : Int)) = (k : Int) + (val.size : Int) := by unfold wrap64; omega
        by_cases c4 : (4096 : Int) < (k : Int) + (val.size : Int)
        · have F := Lib.hid (RET1.out _ ⟨#[]⟩ 2 w1 EO.out (by rw [WR.out, if_neg (by omega), if_pos (.inr c4)]; rfl) (by rw [WR.out, if_neg (by omega), if_pos (.inr c4)]) B1.out)
          as_aux_lemma =>
            go_wp2
            refine bodyPost_ret (v := .tuple #[.string ⟨#[]⟩, .int .i64 2]) (by simp [results, Tryz.results11, go_sem]) rfl ?_
            exact F.out
        have k1' : k ≤ d.size := by omega
        have k1i : (k : Int) ≤ (d.size : Int) := by omega
        by_cases c5 : (k : Int) + (val.size : Int) < (d.size : Int)
        · obtain ⟨en, hen⟩ : ∃ en, en = k + val.size := ⟨_, rfl⟩
          have F := Lib.hid (fun q => RET1.out _ (d.extract 0 k ++ val ++ d.extract en d.size) 0 (w1.drewN q) EO.out (by rw [WR.out, if_neg (by omega), if_neg (by omega), hen, show min ((k : Int).toNat + val.size) d.size = k + val.size by omega]; rfl) (by rw [WR.out, if_neg (by omega), if_neg (by omega)]) (below_drewN B1.out q))
          have e5 : (k : Int) + (val.size : Int) = (en : Int) := by omega
          have e6 : en ≤ d.size := by omega
          have e6i : (en : Int) ≤ (d.size : Int) := by omega
          have e7 : (en : Int) < (d.size : Int) := by omega
          have z1 : ¬ 9223372036854775807 < (d.extract 0 k).size + val.size := by rw [ByteArray.size_extract]; omega
          have z2 : ¬ 9223372036854775807 < (d.extract 0 k).size + val.size + (d.extract en d.size).size := by rw [ByteArray.size_extract, ByteArray.size_extract]; omega
          rw [e5] at wr1 c4 c5
          clear hen
          as_aux_lemma =>
            go_upto_region 18 with fail
            go_quiet (fail)
            go_wp2
            refine bodyPost_ret (v := .tuple #[.string (d.extract 0 k ++ val ++ d.extract en d.size), .int .i64 0]) (by simp [results, Tryz.results11, go_sem]) rfl ?_
            exact F.out _
        · have F := Lib.hid (fun q => RET1.out _ (d.extract 0 k ++ val) 0 (w1.drewN q) EO.out (by
            rw [WR.out, if_neg (by omega), if_neg (by omega), show min ((k : Int).toNat + val.size) d.size = d.size by omega]
            show d.extract 0 k ++ val ++ d.extract d.size d.size = _
            rw [(ba_empty_iff (d.extract d.size d.size)).2 (by rw [ByteArray.size_extract]; omega)]
            exact ba_list (by rw [ByteArray.data_append, Array.toList_append]; simp)) (by rw [WR.out, if_neg (by omega), if_neg (by omega)]) (below_drewN B1.out q))
          have z1 : ¬ 9223372036854775807 < (d.extract 0 k).size + val.size := by rw [ByteArray.size_extract]; omega
          as_aux_lemma =>
            go_upto_region 19 with fail
            go_quiet (fail)
            go_wp2
            refine bodyPost_ret (v := .tuple #[.string (d.extract 0 k ++ val), .int .i64 0]) (by simp [results, Tryz.results11, go_sem]) rfl ?_
            exact F.out _
      have k2b : (kk == 21) = false := by simp [k2]
      by_cases k3 : kk = 22
      · subst k3
        have EO := Lib.hid (show opD D o = cutD D o.num o.len by unfold opD; rw [← KK.out]; rfl)
        have WR := Lib.hid (show cutD D o.num o.len = (if o.len < 0 ∨ (d.size : Int) < o.len then (1, none) else (0, some (d.extract 0 o.len.toNat)) : Int × Option ByteArray) by unfold cutD; rw [if_neg (not_not_intro HE.out.symm), ← HD.out])
        generalize o.len = n at *
        clear k1 k2
        by_cases c1 : n < 0
        · have F := Lib.hid (RET1.out _ ⟨#[]⟩ 1 w1 EO.out (by rw [WR.out, if_pos (.inl c1)]; rfl) (by rw [WR.out, if_pos (.inl c1)]) B1.out)
          as_aux_lemma =>
            go_wp2
            refine bodyPost_ret (v := .tuple #[.string ⟨#[]⟩, .int .i64 1]) (by simp [results, Tryz.results11, go_sem]) rfl ?_
            exact F.out
        by_cases c2 : (d.size : Int) < n
        · have F := Lib.hid (RET1.out _ ⟨#[]⟩ 1 w1 EO.out (by rw [WR.out, if_pos (.inr c2)]; rfl) (by rw [WR.out, if_pos (.inr c2)]) B1.out)
          as_aux_lemma =>
            go_wp2
            refine bodyPost_ret (v := .tuple #[.string ⟨#[]⟩, .int .i64 1]) (by simp [results, Tryz.results11, go_sem]) rfl ?_
            exact F.out
        obtain ⟨k, rfl⟩ := Int.eq_ofNat_of_zero_le (show 0 ≤ n by omega)
        have F := Lib.hid (RET1.out _ (d.extract 0 k) 0 w1 EO.out (by rw [WR.out, if_neg (by omega)]; rfl) (by rw [WR.out, if_neg (by omega)]) B1.out)
        have k1' : k ≤ d.size := by omega
        have k1i : (k : Int) ≤ (d.size : Int) := by omega
        as_aux_lemma =>
          go_wp2
          refine bodyPost_ret (v := .tuple #[.string (d.extract 0 k), .int .i64 0]) (by simp [results, Tryz.results11, go_sem]) rfl ?_
          exact F.out
      have k3b : (kk == 22) = false := by simp [k3]
      have EO := Lib.hid (show opD D o = delD D o.num by unfold opD; rw [if_neg (by rw [← KK.out]; exact k1), if_neg (by rw [← KK.out]; exact k2), if_neg (by rw [← KK.out]; exact k3)])
      have F := Lib.hid (RET1.out _ ⟨#[]⟩ 0 w1 EO.out rfl (by show erD D o.num = 0; exact HE.out.symm) B1.out)
      clear k1 k2 k3
      as_aux_lemma =>
        go_wp2
        refine bodyPost_ret (v := .tuple #[.string ⟨#[]⟩, .int .i64 0]) (by simp [results, Tryz.results11, go_sem]) rfl ?_
        exact F.out
    · have c0b : (er != 0) = true := by simp [c0]
      have OE : opD D o = (er, none) := by
        unfold opD
        rw [if_neg (by rw [← KK.out]; exact k1)]
        by_cases h2 : o.k = 21
        · rw [if_pos h2]; unfold wrD; rw [if_pos (by rw [← HE.out]; exact c0), ← HE.out]
        rw [if_neg h2]
        by_cases h3 : o.k = 22
        · rw [if_pos h3]; unfold cutD; rw [if_pos (by rw [← HE.out]; exact c0), ← HE.out]
        · rw [if_neg h3]; unfold delD; rw [← HE.out]
      have F := Lib.hid (RET1.out (er, none) ⟨#[]⟩ er w1 OE rfl rfl B1.out)
      clear OE
      clear c0 k1
      as_aux_lemma =>
        go_wp2
        refine bodyPost_ret (v := .tuple #[.string ⟨#[]⟩, .int .i64 er]) (by simp [results, Tryz.results11, go_sem]) rfl ?_
        exact F.out
end Go.Proofs.YtaiiimlmkigajaaGreat
namespace Go.Proofs.YtaiiimlmkigajaaGreat
open Go.RowKit Go.Maps Go.ChangeShapes Go.WideShapes Go.ChangeAt Go.Deep

set_option maxRecDepth 100000 in
set_option maxHeartbeats 8000000 in
theorem pieces17 (d : ByteArray) (hd : d.size ≤ 1000000) (w : World) : Calls Tryz.prog 12 #[.string d] w fun e w' => ∃ v, e = .returned v ∧ TxOwn w' w.heap.size v (cutB d) ∧ Below w.heap.size w w' := by
  have HD := Lib.hid hd
  have d9 : d.size ≤ 9223372036854775807 := by omega
  clear hd
  go_enter Tryz.func12, Tryz.ntmps12
  go_wp2_with fail
  go_loopw [3, 4] (fun ls av wr => ∃ k q : Nat, av = .int .i64 q ∧ q = k * 16 ∧ k ≤ pieceN d ∧ wr.ownsRow w.heap.size 9 1 ls k (txL ((List.range k).map (pieceB d))) ∧ Below w.heap.size w wr) (fun _ av _ => pieceN d * 16 - (RowKit.intOf av).toNat)
  case atStart => exact ⟨0, 0, rfl, rfl, Nat.zero_le _, World.ownsRow_nil _ _ _ _, Below.refl _ _⟩
  case round =>
    obtain ⟨k, q, rfl, hq, hk, ho, hb⟩ := hrel
    have Q := Lib.hid (show q = k * 16 ∧ k ≤ pieceN d ∧ k ≤ 1000000 ∧ q ≤ 2000000 from ⟨hq, hk, by have := HD.out; unfold pieceN at hk; omega, by have := HD.out; unfold pieceN at hk; omega⟩)
    have O := Lib.hid ho; have BW := Lib.hid hb
    obtain ⟨la, lc, rfl⟩ := ow_slice ho
    clear hq hk ho hb
    have wr1 : wrap64 ((q : Int) + 16) = (q : Int) + 16 := by have := Q.out; unfold wrap64; omega
    have W1 := Lib.hid wr1
    by_cases hlt : k < pieceN d
    · obtain ⟨en, hen⟩ : ∃ en, en = min (q + 16) d.size := ⟨_, rfl⟩
      have em : min ((q : Int) + 16) (d.size : Int) = (en : Int) := by rw [hen]; omega
      have q1 : q ≤ en := by rw [hen]; have := Q.out; unfold pieceN at hlt; omega
      have q1i : (q : Int) ≤ (en : Int) := by omega
      have q2 : en ≤ d.size := by rw [hen]; omega
      have q2i : (en : Int) ≤ (d.size : Int) := by omega
      obtain ⟨P, hP⟩ : ∃ P, P = pieceB d k := ⟨_, rfl⟩
      have PH := Lib.hid hP
      obtain ⟨PLs, hPL⟩ : ∃ PLs, PLs = (List.range k).map (pieceB d) := ⟨_, rfl⟩
      have PLH := Lib.hid hPL
      rw [← hPL] at O
      have EP : d.extract q en = P := by
        rw [hP]
        refine ba_list ?_
        unfold pieceB
        rw [ext_list, ext_list, hen, Q.out.1]
        have hl : d.data.toList.length = d.size := by rw [Array.length_toList]; rfl
        rcases Nat.le_total (k * 16 + 16) d.size with h | h
        · rw [Nat.min_eq_left h]
        · rw [Nat.min_eq_right h, List.take_of_length_le (l := d.data.toList) (by omega), List.take_of_length_le (l := d.data.toList) (by omega)]
      have H := Lib.hid hlt
      clear hP hPL
      by_cases c0 : q = 0
      · have c0b : ((q : Int) == 0) = true := by simp [c0]
        clear c0 hen hlt
        as_aux_lemma =>
          go_upto_region 5 with fail
          clear c0b
          go_wp2_with (first | (refine slice1_tx rfl _ rfl P rfl ?_) | (refine app_tx rfl _ _ rfl (B0 := w.heap.size) (s := P) (l := PLs) (n := k) (v := .slice la k lc) rfl rfl O.out BW.out.size Q.out.2.2.1 ?_; intro g7 cap7 w7 hown hgr; (have O7 := Lib.hid hown); (have G7 := Lib.hid hgr); clear hown hgr))
          go_roundw
          case rel => exact ⟨k + 1, q + 16, by rw [W1.out]; push_cast; rfl, by have := Q.out; omega, by have := H.out; omega, by
            have h7 := O7.out
            rw [txL_app, PLH.out, PH.out] at h7
            have e := pieces_snoc d k
            rw [← e]
            exact h7, bl_grow BW.out G7.out (fun z hz => (ow_blk O.out hz).1) BW.out.size⟩
          case measure => rw [W1.out]; have := H.out; have := Q.out; simp [RowKit.intOf]; omega
      · have c0b : ((q : Int) == 0) = false := by simp; omega
        have c1 : (q : Int) < (d.size : Int) := by have := Q.out; unfold pieceN at hlt; omega
        clear c0 hen hlt
        as_aux_lemma =>
          go_upto_region 5 with fail
          clear c0b
          go_wp2_with (first | (refine slice1_tx rfl _ rfl P rfl ?_) | (refine app_tx rfl _ _ rfl (B0 := w.heap.size) (s := P) (l := PLs) (n := k) (v := .slice la k lc) rfl rfl O.out BW.out.size Q.out.2.2.1 ?_; intro g7 cap7 w7 hown hgr; (have O7 := Lib.hid hown); (have G7 := Lib.hid hgr); clear hown hgr))
          go_roundw
          case rel => exact ⟨k + 1, q + 16, by rw [W1.out]; push_cast; rfl, by have := Q.out; omega, by have := H.out; omega, by
            have h7 := O7.out
            rw [txL_app, PLH.out, PH.out] at h7
            have e := pieces_snoc d k
            rw [← e]
            exact h7, bl_grow BW.out G7.out (fun z hz => (ow_blk O.out hz).1) BW.out.size⟩
          case measure => rw [W1.out]; have := H.out; have := Q.out; simp [RowKit.intOf]; omega
    · have kp : k = pieceN d := by have := Q.out; omega
      have c0b : ((q : Int) == 0) = false := by have := Q.out; have : 1 ≤ pieceN d := by { unfold pieceN; omega }; simp; omega
      have c1 : ¬ (q : Int) < (d.size : Int) := by have := Q.out; rw [kp] at this; unfold pieceN at this; omega
      have FIN := Lib.hid (show TxOwn wr w.heap.size (.slice la k lc) (cutB d) from by unfold TxOwn; rw [cutB_len, ← kp]; unfold cutB; rw [← kp]; exact O.out)
      clear kp hlt
      as_aux_lemma =>
        go_wp2
        go_ret
        exact ⟨_, rfl, FIN.out, BW.out⟩
end Go.Proofs.YtaiiimlmkigajaaGreat
namespace Go.Proofs.YtaiiimlmkigajaaGreat
open Go.RowKit Go.Maps Go.ChangeShapes Go.WideShapes Go.ChangeAt Go.Deep

/-- Only blocks from one on are touched. -/
inductive Hi (G Z : Nat) (w : World) : World → Prop
  | refl : Hi G Z w w
  | grow {a b : World} {row : Option Nat} (h : Hi G Z w a) (hg : a.grownBy b row) (hr : ∀ k, row = some k → G ≤ k ∧ k < Z) : Hi G Z w b
theorem Hi.size {G Z : Nat} {w w' : World} (h : Hi G Z w w') : w.heap.size ≤ w'.heap.size := by
  induction h with
  | refl => exact Nat.le_refl _
  | grow h hg hr ih => exact Nat.le_trans ih hg.size
theorem Hi.lowr {G Z : Nat} {w w' : World} (h : Hi G Z w w') (hG : G ≤ w.heap.size) : Below G w w' := by
  induction h with
  | refl => exact Below.refl _ _
  | @grow a b row h hg hr ih => exact bl_grow ih hg (fun k hk => (hr k hk).1) (Nat.le_trans hG h.size)
theorem Hi.mid {G Z : Nat} {w w' : World} (h : Hi G Z w w') {q : Nat} (h1 : Z ≤ q) (h2 : q < w.heap.size) : w'.heap[q]? = w.heap[q]? := by
  induction h with
  | refl => rfl
  | @grow a b row h hg hr ih => exact (hg.block q (Nat.lt_of_lt_of_le h2 h.size) (fun e => by have := (hr q e.symm).2; omega)).trans ih
theorem Od.hi {w w' : World} {B g b gs r M : Nat} {D : Do} {m G Z : Nat} (h : Od w B g b gs r M D m) (hw : Hi G Z w w') (hG : g < G ∧ b < G ∧ gs < G ∧ r < G) : Od w' B g b gs r M D m := by
  induction hw with
  | refl => exact h
  | grow h1 hg hr ih => exact ⟨ih.lo.grown hg (fun k hk => by have := (hr k hk).1; omega), ih.sz⟩
theorem RD.put {l : List Ob} {D : Do} (h : RD l D) {num : Int} (b : ByteArray) (hn : ∀ x, x ∈ l → x.1 ≠ num) : RD (l ++ [(num, b)]) (setD D num (some b)) := by
  refine ⟨?_, fun n d => ?_⟩
  · rw [List.map_append, List.nodup_append]
    refine ⟨h.nd, by simp, fun x hx y hy => ?_⟩
    obtain ⟨z, hz, rfl⟩ := List.mem_map.1 hx
    rw [show y = num from by simpa using hy]
    exact hn z hz
  · rw [List.mem_append, List.mem_singleton]
    unfold setD
    by_cases e : n = num
    · rw [if_pos e]
      constructor
      · rintro (h1 | h1)
        · exact absurd e (hn _ h1)
        · injection h1 with _ h1; rw [h1]
      · intro h1; injection h1 with h1; right; rw [e, h1]
    · rw [if_neg e, ← h.mem]
      constructor
      · rintro (h1 | h1)
        · exact h1
        · injection h1 with h1 _; exact absurd h1 e
      · exact .inl
theorem map_set_fst {l : List Ob} {i : Nat} {num : Int} {d b : ByteArray} (hi : l[i]? = some (num, d)) : (l.set i (num, b)).map (·.1) = l.map (·.1) := by
  rw [List.map_set]
  refine List.ext_getElem? fun j => ?_
  rw [List.getElem?_set]
  by_cases e : i = j
  · subst e
    rw [if_pos rfl, List.getElem?_map, hi]
    have := (List.getElem?_eq_some_iff.1 hi).1
    rw [if_pos (by rw [List.length_map]; exact this)]
    rfl
  · rw [if_neg e]
theorem RD.set {l : List Ob} {D : Do} (h : RD l D) {num : Int} {d : ByteArray} (b : ByteArray) {i : Nat} (hi : l[i]? = some (num, d)) : RD (l.set i (num, b)) (setD D num (some b)) := by
  have hil := (List.getElem?_eq_some_iff.1 hi).1
  have em := map_set_fst (b := b) hi
  have nd2 : ((l.set i (num, b)).map (·.1)).Nodup := by rw [em]; exact h.nd
  have uniq : ∀ {m : List Ob}, (m.map (·.1)).Nodup → ∀ n x y, (n, x) ∈ m → (n, y) ∈ m → x = y := by
    intro m
    induction m with
    | nil => intro _ n x y h; cases h
    | cons a m ih =>
      intro hn n x y hx hy
      rw [List.map_cons, List.nodup_cons] at hn
      rcases List.mem_cons.1 hx with h1 | h1
      · rcases List.mem_cons.1 hy with h2 | h2
        · rw [← h2] at h1; injection h1
        · exact absurd (List.mem_map.2 ⟨_, h2, by rw [← h1]⟩) hn.1
      · rcases List.mem_cons.1 hy with h2 | h2
        · exact absurd (List.mem_map.2 ⟨_, h1, by rw [← h2]⟩) hn.1
        · exact ih hn.2 n x y h1 h2
  have me : (num, b) ∈ l.set i (num, b) := List.mem_of_getElem? (by rw [List.getElem?_set, if_pos rfl, if_pos hil])
  refine ⟨nd2, fun n x => ?_⟩
  unfold setD
  by_cases e : n = num
  · rw [if_pos e, e]
    constructor
    · intro h1; rw [uniq nd2 num x b h1 me]
    · intro h1; injection h1 with h1; rw [← h1]; exact me
  · rw [if_neg e, ← h.mem]
    constructor
    · intro h1
      rcases List.mem_or_eq_of_mem_set h1 with h2 | h2
      · exact h2
      · injection h2 with h2 _; exact absurd h2 e
    · intro h1
      obtain ⟨j, hj⟩ := List.mem_iff_getElem?.1 h1
      refine List.mem_of_getElem? (i := j) ?_
      rw [List.getElem?_set]
      by_cases ej : i = j
      · subst ej; rw [hi] at hj; injection hj with hj; injection hj with hj _; exact absurd hj.symm e
      · rw [if_neg ej]; exact hj
def PuP (w : World) (G Z : Nat) (D : Do) (e : Ending) (w' : World) (k : Nat) : Prop := e = .returned (.tuple #[]) ∧ Hi G Z w w' ∧ ∃ l, Rf w' G l ∧ RD l D ∧ l.length ≤ k
set_option maxRecDepth 100000 in
set_option maxHeartbeats 8000000 in
theorem put17 {w0 w : World} {G : Nat} {l : List Ob} {D : Do} (h0 : Rf w0 G l) (hk0 : Below w0.heap.size w0 w) (hd : RD l D) (num : Int) (b : ByteArray) (hb : b.size ≤ 4096) (hl : l.length + 1 ≤ 1000) : Calls Tryz.prog 14 #[.pointer (some ⟨G, 0, none⟩), .int .i64 num, .string b] w fun e w' => PuP w G w0.heap.size (setD D num (some b)) e w' (l.length + 1) := by
  have h := h0.kept hk0
  have CF := Lib.hid (find17 h num)
  have H := Lib.hid h
  obtain ⟨nv, bv, hbk0, hn0, hbv0⟩ := h0.ex
  have hbk := hbk0.kept hk0; have hn := ow_kept hn0 hk0; have hbv := ow_kept hbv0 hk0
  have NZ := Lib.hid (fun k hk => (ow_blk hn0 (k := k) hk).2.1); have BZ := Lib.hid (fun k hk => (ow_blk hbv0 (k := k) hk).2.1)
  obtain ⟨Z, hZ⟩ : ∃ Z, Z = w0.heap.size := ⟨_, rfl⟩
  have GZ := Lib.hid (show G < Z from by rw [hZ]; exact hbk0.lt)
  rw [← hZ] at NZ BZ ⊢
  clear hbk0 hn0 hbv0 hZ
  have BK := Lib.hid hbk; have NR := Lib.hid hn; have BR := Lib.hid hbv
  have x0 : w.cell? ⟨G, 0, none⟩ = some nv := hbk.cell 0
  have x1 : w.cell? ⟨G, 1, none⟩ = some bv := hbk.cell 1
  obtain ⟨na, nc, rfl⟩ := ow_slice hn
  obtain ⟨ba, bc, rfl⟩ := ow_slice hbv
  obtain ⟨ln, hln⟩ : ∃ ln, ln = l.length := ⟨_, rfl⟩
  have LN := Lib.hid (show ln = l.length ∧ ln + 1 ≤ 1000 from ⟨hln, by rw [hln]; exact hl⟩)
  have HD := Lib.hid hd; have SB := Lib.hid hb
  rw [← hln] at x0 x1 BK NR BR NZ BZ ⊢
  have GL := Lib.hid (show G < w.heap.size from hbk.lt)
  have SZL := Lib.hid h.sz
  clear h h0 hk0 hbk hn hbv hln hd hb hl
  go_enter Tryz.func14, Tryz.ntmps14
  go_wp2_with fail
  refine CF.out.mono ?_
  rintro e w1 ⟨r, rfl, (⟨rfl, hno⟩ | ⟨i, d, rfl, hi⟩), hw⟩
  · rw [hw]
    have NO := Lib.hid hno
    clear hw hno CF
    have N9 := Lib.hid (show ln ≤ 1000000 by have := LN.out; omega)
    clear H
    as_aux_lemma =>
      go_upto_region 4 with (first | (refine slice1_nm rfl _ rfl num rfl ?_) | (refine app_nm rfl _ _ rfl (B0 := G + 1) (s := num) (l := l.map (·.1)) (n := ln) (v := .slice na ln nc) rfl rfl NR.out GL.out N9.out ?_; intro g3 cap3 w3 hown hgr; (have K3 := Lib.hid (BK.out.grown hgr (fun e => by have := (ow_blk NR.out e.symm).1; omega))); (have f3 : w3.frozen? ⟨G, 0, none⟩ = false := K3.out.fz 0); (have c3 : w3.cell? ⟨G, 0, none⟩ = some (.slice na ln nc) := K3.out.cell 0); (have N3 := Lib.hid hown); (have R3 := Lib.hid (ow_other BR.out NR.out hgr (by decide))); (have H3 := Lib.hid (Hi.grow Hi.refl hgr (fun k hk => ⟨Nat.le_of_succ_le (ow_blk NR.out hk).1, NZ.out k hk⟩))); clear hown hgr BK NR BR x0 x1))
      have K4 := Lib.hid (K3.out.set 0 (.slice (some ⟨g3, 0, none⟩) (ln + 1) cap3))
      have N4 := Lib.hid (ow_far N3.out (p := ⟨G, 0, none⟩) (Nat.lt_succ_self G) (.slice (some ⟨g3, 0, none⟩) (ln + 1) cap3))
      have R4 := Lib.hid (ow_far R3.out (p := ⟨G, 0, none⟩) (Nat.lt_succ_self G) (.slice (some ⟨g3, 0, none⟩) (ln + 1) cap3))
      have H4 := Lib.hid (Hi.grow H3.out (only_cell' w3 G 0 (.slice (some ⟨g3, 0, none⟩) (ln + 1) cap3)) (fun k hk => by cases hk; exact ⟨Nat.le_refl _, GZ.out⟩))
      generalize w3.setCell ⟨G, 0, none⟩ (.slice (some ⟨g3, 0, none⟩) (ln + 1) cap3) = w4 at *
      have x1 : w4.cell? ⟨G, 1, none⟩ = some (.slice ba ln bc) := K4.out.cell 1
      have GL4 := Lib.hid (show G + 1 ≤ w4.heap.size from K4.out.lt)
      clear f3 c3 K3 N3 R3 H3
      as_aux_lemma =>
        go_wp2_with (first | (refine slice1_tx rfl _ rfl b rfl ?_) | (refine app_tx rfl _ _ rfl (B0 := G + 1) (s := b) (l := l.map (·.2)) (n := ln) (v := .slice ba ln bc) rfl rfl R4.out GL4.out N9.out ?_; intro g5 cap5 w5 hown hgr; (have K5 := Lib.hid (K4.out.grown hgr (fun e => by have := (ow_blk R4.out e.symm).1; omega))); (have f5 : w5.frozen? ⟨G, 1, none⟩ = false := K5.out.fz 1); (have c5 : w5.cell? ⟨G, 1, none⟩ = some (.slice ba ln bc) := K5.out.cell 1); (have R5 := Lib.hid hown); (have N5 := Lib.hid (ow_other N4.out R4.out hgr (by decide))); (have H5 := Lib.hid (Hi.grow H4.out hgr (fun k hk => ⟨Nat.le_of_succ_le (ow_blk R4.out hk).1, BZ.out k hk⟩))); clear hown hgr K4 N4 R4 H4 x1))
        have K6 := Lib.hid (K5.out.set 1 (.slice (some ⟨g5, 0, none⟩) (ln + 1) cap5))
        have N6 := Lib.hid (ow_far N5.out (p := ⟨G, 1, none⟩) (Nat.lt_succ_self G) (.slice (some ⟨g5, 0, none⟩) (ln + 1) cap5))
        have R6 := Lib.hid (ow_far R5.out (p := ⟨G, 1, none⟩) (Nat.lt_succ_self G) (.slice (some ⟨g5, 0, none⟩) (ln + 1) cap5))
        have H6 := Lib.hid (Hi.grow H5.out (only_cell' w5 G 1 (.slice (some ⟨g5, 0, none⟩) (ln + 1) cap5)) (fun k hk => by cases hk; exact ⟨Nat.le_refl _, GZ.out⟩))
        generalize w5.setCell ⟨G, 1, none⟩ (.slice (some ⟨g5, 0, none⟩) (ln + 1) cap5) = w6 at *
        have el : (l ++ [(num, b)]).length = ln + 1 := by rw [List.length_append, ← LN.out.1]; rfl
        refine bodyPost_end (results_none rfl _ _ _) rfl ⟨rfl, H6.out, l ++ [(num, b)], ⟨⟨_, _, K6.out, ?_, ?_⟩, by rw [el]; exact LN.out.2, fun x hx => ?_⟩, HD.out.put b NO.out, by rw [el]; exact Nat.le_refl _⟩
        · rw [el, List.map_append]; exact N6.out
        · rw [el, List.map_append]; exact R6.out
        · rcases List.mem_append.1 hx with hx | hx
          · exact SZL.out x hx
          · rw [List.mem_singleton.1 hx]; exact SB.out
  · rw [hw]
    have hil : i < ln := by rw [LN.out.1]; exact (List.getElem?_eq_some_iff.1 hi).1
    have hili : (i : Int) < (ln : Int) := by omega
    obtain ⟨g2, c2, e1, y0⟩ := row_cell BR.out (i := i) (u := .string d) (by unfold txL; rw [List.getElem?_map, List.getElem?_map, hi]; rfl) hil
    obtain ⟨rfl, rfl⟩ : ba = some ⟨g2, 0, none⟩ ∧ bc = c2 := by injection e1 with a1 _ a2; exact ⟨a1, a2⟩
    have f0 : w.frozen? ⟨g2, i, none⟩ = false := BR.out.frozenAt i
    have HI := Lib.hid hi
    have ST := Lib.hid (BR.out.stored i (.string b))
    have NO := Lib.hid (ow_other NR.out BR.out ST.out.2 (by decide))
    have KG := Lib.hid (BK.out.grown ST.out.2 (fun e => by have h1 := (ow_blk BR.out (own_slice g2 ln bc)).1; injection e with e; omega))
    have HG := Lib.hid (Hi.grow Hi.refl ST.out.2 (fun k hk => by cases hk; exact ⟨Nat.le_of_succ_le (ow_blk BR.out (own_slice g2 ln bc)).1, BZ.out _ rfl⟩))
    clear hw CF hi e1 H
    as_aux_lemma =>
      go_wp2
      have el : (l.set i (num, b)).length = ln := by rw [List.length_set, LN.out.1]
      refine bodyPost_ret (results_none rfl _ _ _) rfl ⟨rfl, HG.out, l.set i (num, b), ⟨⟨_, _, KG.out, ?_, ?_⟩, by rw [el]; have := LN.out; omega, fun x hx => ?_⟩, HD.out.set b HI.out, by rw [el]; exact Nat.le_succ _⟩
      · rw [el, map_set_fst HI.out]; exact NO.out
      · rw [el]
        have e2 : txL ((l.set i (num, b)).map (·.2)) = (txL (l.map (·.2))).set i (.string b) := by unfold txL; rw [List.map_set, List.map_set]
        rw [e2]; exact ST.out.1
      · rcases List.mem_or_eq_of_mem_set hx with hx | hx
        · exact SZL.out x hx
        · rw [hx]; exact SB.out
/-- What is left without one. -/
def dropL (l : List Ob) (num : Int) : List Ob := l.filter fun x => decide (x.1 ≠ num)
theorem RD.drop {l : List Ob} {D : Do} (h : RD l D) (num : Int) : RD (dropL l num) (setD D num none) := by
  refine ⟨List.Nodup.sublist ((List.filter_sublist).map _) h.nd, fun n d => ?_⟩
  unfold dropL setD
  rw [List.mem_filter]
  by_cases e : n = num
  · rw [if_pos e]; simp [e]
  · rw [if_neg e, ← h.mem]; simp [e]
theorem dropL_succ {l : List Ob} {num : Int} {k : Nat} {x : Ob} (h : l[k]? = some x) : dropL (l.take (k + 1)) num = dropL (l.take k) num ++ (if x.1 ≠ num then [x] else []) := by
  unfold dropL
  rw [List.take_add_one, h, List.filter_append]
  congr 1
  by_cases e : x.1 ≠ num <;> simp [e]
theorem dropL_len (l : List Ob) (num : Int) : (dropL l num).length ≤ l.length := List.length_filter_le _ _
set_option maxRecDepth 100000 in
set_option maxHeartbeats 8000000 in
theorem drop17 {w0 w : World} {G : Nat} {l : List Ob} {D : Do} (h0 : Rf w0 G l) (hk0 : Below w0.heap.size w0 w) (hd : RD l D) (num : Int) : Calls Tryz.prog 13 #[.pointer (some ⟨G, 0, none⟩), .int .i64 num] w fun e w' => PuP w G w0.heap.size (setD D num none) e w' l.length := by
  have h := h0.kept hk0
  have H := Lib.hid h
  obtain ⟨nv, bv, hbk0, hn0, hbv0⟩ := h0.ex
  have hbk := hbk0.kept hk0; have hn := ow_kept hn0 hk0; have hbv := ow_kept hbv0 hk0
  have NZ := Lib.hid (fun k hk => (ow_blk hn0 (k := k) hk).2.1); have BZ := Lib.hid (fun k hk => (ow_blk hbv0 (k := k) hk).2.1)
  obtain ⟨Z, hZ⟩ : ∃ Z, Z = w0.heap.size := ⟨_, rfl⟩
  have GZ := Lib.hid (show G < Z from by rw [hZ]; exact hbk0.lt)
  rw [← hZ] at NZ BZ ⊢
  clear hbk0 hn0 hbv0 hZ
  have BK := Lib.hid hbk; have NR := Lib.hid hn; have BR := Lib.hid hbv
  obtain ⟨na, nc, rfl⟩ := ow_slice hn
  obtain ⟨ba, bc, rfl⟩ := ow_slice hbv
  obtain ⟨ln, hln⟩ : ∃ ln, ln = l.length := ⟨_, rfl⟩
  have LN := Lib.hid (show ln = l.length ∧ ln ≤ 1000 from ⟨hln, by rw [hln]; exact h.len⟩)
  have HD := Lib.hid hd
  rw [← hln] at BK NR BR ⊢
  have GL := Lib.hid (show G < w.heap.size from hbk.lt)
  have SZL := Lib.hid h.sz
  have ln9 : ln ≤ 9223372036854775807 := by have := LN.out; omega
  clear h h0 hk0 hbk hn hbv hln hd
  go_enter Tryz.func13, Tryz.ntmps13
  go_wp2_with fail
  go_loopw [4, 5, 6] (fun av bv iv wr => ∃ k : Nat, iv = .int .i64 k ∧ k ≤ ln ∧ wr.ownsRow w.heap.size 3 1 av (dropL (l.take k) num).length (nmL ((dropL (l.take k) num).map (·.1))) ∧ wr.ownsRow w.heap.size 9 1 bv (dropL (l.take k) num).length (txL ((dropL (l.take k) num).map (·.2))) ∧ Below w.heap.size w wr) (fun _ _ iv _ => ln - (RowKit.intOf iv).toNat)
  case atStart => exact ⟨0, rfl, Nat.zero_le _, World.ownsRow_nil _ _ _ _, World.ownsRow_nil _ _ _ _, Below.refl _ _⟩
  case round =>
    obtain ⟨k, rfl, hk, h1, h2, hb⟩ := hrel
    obtain ⟨n, hnn⟩ : ∃ n, n = (dropL (l.take k) num).length := ⟨_, rfl⟩
    rw [← hnn] at h1 h2
    obtain ⟨aa, ac, rfl⟩ := ow_slice h1
    obtain ⟨xa, xc, rfl⟩ := ow_slice h2
    have A1 := Lib.hid h1; have X1 := Lib.hid h2; have BW := Lib.hid hb
    have NN := Lib.hid (show n = (dropL (l.take k) num).length ∧ n ≤ 1000000 ∧ k ≤ ln from ⟨hnn, by rw [hnn]; have := dropL_len (l.take k) num; have h3 : (l.take k).length ≤ l.length := by { rw [List.length_take]; omega }; have := LN.out; omega, hk⟩)
    have K1 := Lib.hid (BK.out.kept BW.out)
    have x0 : wr.cell? ⟨G, 0, none⟩ = some (.slice na ln nc) := K1.out.cell 0
    have x1 : wr.cell? ⟨G, 1, none⟩ = some (.slice ba ln bc) := K1.out.cell 1
    clear hnn h1 h2 hb hk
    by_cases hlt : k < ln
    · have hlti : (k : Int) < (ln : Int) := by omega
      have kb : k < 9223372036854775807 := by omega
      obtain ⟨x, hx⟩ : ∃ x, l[k]? = some x := ⟨_, List.getElem?_eq_getElem (by rw [← LN.out.1]; exact hlt)⟩
      obtain ⟨g2, c2, e1, y0⟩ := row_cell (ow_kept NR.out BW.out) (i := k) (u := .int .i64 x.1) (by unfold nmL; rw [List.getElem?_map, List.getElem?_map, hx]; rfl) hlt
      obtain ⟨rfl, rfl⟩ : na = some ⟨g2, 0, none⟩ ∧ nc = c2 := by injection e1 with a1 _ a2; exact ⟨a1, a2⟩
      obtain ⟨g3, c3, e2, y1⟩ := row_cell (ow_kept BR.out BW.out) (i := k) (u := .string x.2) (by unfold txL; rw [List.getElem?_map, List.getElem?_map, hx]; rfl) hlt
      obtain ⟨rfl, rfl⟩ : ba = some ⟨g3, 0, none⟩ ∧ bc = c3 := by injection e2 with a1 _ a2; exact ⟨a1, a2⟩
      have DS := Lib.hid (dropL_succ (num := num) hx)
      have HL := Lib.hid hlt; have XK := Lib.hid hx
      clear e1 e2 hx hlt
      by_cases en : x.1 = num
      · have enb : (x.1 != num) = false := by simp [en]
        have EA := Lib.hid (show dropL (l.take (k + 1)) num = dropL (l.take k) num by rw [DS.out, if_neg (not_not_intro en), List.append_nil])
        clear en DS
        as_aux_lemma =>
          go_wp2
          go_roundw
          case rel => exact ⟨k + 1, by push_cast; rfl, by have := HL.out; omega, by rw [EA.out, ← NN.out.1]; exact A1.out, by rw [EA.out, ← NN.out.1]; exact X1.out, BW.out⟩
          case measure => have := HL.out; simp [RowKit.intOf]; omega
      · have enb : (x.1 != num) = true := by simp [en]
        have EA := Lib.hid (show dropL (l.take (k + 1)) num = dropL (l.take k) num ++ [x] by rw [DS.out, if_pos en])
        clear en DS
        as_aux_lemma =>
          go_upto_region 7 with (first | (refine slice1_nm rfl _ rfl x.1 rfl ?_) | (refine app_nm rfl _ _ rfl (B0 := w.heap.size) (s := x.1) (l := (dropL (l.take k) num).map (·.1)) (n := n) (v := .slice aa n ac) rfl rfl A1.out BW.out.size NN.out.2.1 ?_; intro g5 cap5 w5 hown hgr; (have A5 := Lib.hid hown); (have X5 := Lib.hid (ow_other X1.out A1.out hgr (by decide))); (have B5 := Lib.hid (bl_grow BW.out hgr (fun z hz => (ow_blk A1.out hz).1) BW.out.size)); clear hown hgr))
          have K5 := Lib.hid (BK.out.kept B5.out)
          have z1 : w5.cell? ⟨G, 1, none⟩ = some (.slice (some ⟨g3, 0, none⟩) ln bc) := K5.out.cell 1
          have z2 : w5.cell? ⟨g3, k, none⟩ = some (.string x.2) := by
            obtain ⟨g4, c4, e4, z⟩ := row_cell (ow_kept BR.out B5.out) (i := k) (u := .string x.2) (by unfold txL; rw [List.getElem?_map, List.getElem?_map, XK.out]; rfl) HL.out
            obtain rfl : g3 = g4 := by injection e4 with a1 _ a2; injection a1 with a1; injection a1
            exact z
          clear x0 x1 y0 y1 A1 X1 BW K1
          as_aux_lemma =>
            go_wp2_with (first | (refine slice1_tx rfl _ rfl x.2 rfl ?_) | (refine app_tx rfl _ _ rfl (B0 := w.heap.size) (s := x.2) (l := (dropL (l.take k) num).map (·.2)) (n := n) (v := .slice xa n xc) rfl rfl X5.out B5.out.size NN.out.2.1 ?_; intro g7 cap7 w7 hown hgr; (have X7 := Lib.hid hown); (have A7 := Lib.hid (ow_other A5.out X5.out hgr (by decide))); (have B7 := Lib.hid (bl_grow B5.out hgr (fun z hz => (ow_blk X5.out hz).1) B5.out.size)); clear hown hgr))
            go_roundw
            case rel => exact ⟨k + 1, by push_cast; rfl, by have := HL.out; omega, by rw [EA.out, List.length_append, ← NN.out.1, List.map_append]; exact A7.out, by rw [EA.out, List.length_append, ← NN.out.1, List.map_append]; exact X7.out, B7.out⟩
            case measure => have := HL.out; simp [RowKit.intOf]; omega
    · obtain rfl : k = ln := by have := NN.out; omega
      have hni : ¬ (k : Int) < (k : Int) := by omega
      have ET := Lib.hid (show l.take k = l by rw [LN.out.1]; exact List.take_length)
      have f0 : wr.frozen? ⟨G, 0, none⟩ = false := K1.out.fz 0
      clear hlt
      as_aux_lemma =>
        go_upto_region 9 with fail
        have K4 := Lib.hid (K1.out.set 0 (.slice aa n ac))
        have A4 := Lib.hid (ow_far A1.out (p := ⟨G, 0, none⟩) GL.out (.slice aa n ac))
        have X4 := Lib.hid (ow_far X1.out (p := ⟨G, 0, none⟩) GL.out (.slice aa n ac))
        have H4 := Lib.hid (Hi.grow (Hi.grow Hi.refl (only_below BW.out none) (fun k hk => by cases hk)) (only_cell' wr G 0 (.slice aa n ac)) (fun k hk => by cases hk; exact ⟨Nat.le_refl G, GZ.out⟩))
        generalize wr.setCell ⟨G, 0, none⟩ (.slice aa n ac) = w4 at *
        have f1 : w4.frozen? ⟨G, 1, none⟩ = false := K4.out.fz 1
        have c1 : w4.cell? ⟨G, 1, none⟩ = some (.slice ba k bc) := K4.out.cell 1
        clear f0 x0 x1 K1 A1 X1
        as_aux_lemma =>
          go_wp2
          have K6 := Lib.hid (K4.out.set 1 (.slice xa n xc))
          have A6 := Lib.hid (ow_far A4.out (p := ⟨G, 1, none⟩) GL.out (.slice xa n xc))
          have X6 := Lib.hid (ow_far X4.out (p := ⟨G, 1, none⟩) GL.out (.slice xa n xc))
          have H6 := Lib.hid (Hi.grow H4.out (only_cell' w4 G 1 (.slice xa n xc)) (fun k hk => by cases hk; exact ⟨Nat.le_refl G, GZ.out⟩))
          generalize w4.setCell ⟨G, 1, none⟩ (.slice xa n xc) = w6 at *
          have el : (dropL l num).length = n := by rw [NN.out.1, ET.out]
          refine bodyPost_end (results_none rfl _ _ _) rfl ⟨rfl, H6.out, dropL l num, ⟨⟨_, _, K6.out, ?_, ?_⟩, by rw [el]; have := NN.out; have := LN.out; rw [← el]; exact Nat.le_trans (dropL_len l num) (by omega), fun x hx => SZL.out x (List.mem_filter.1 hx).1⟩, HD.out.drop num, by rw [LN.out.1]; exact dropL_len l num⟩
          · rw [el]; have := ow_mono A6.out (Nat.succ_le_of_lt GL.out); rw [ET.out] at this; exact this
          · rw [el]; have := ow_mono X6.out (Nat.succ_le_of_lt GL.out); rw [ET.out] at this; exact this
end Go.Proofs.YtaiiimlmkigajaaGreat
namespace Go.Proofs.YtaiiimlmkigajaaGreat
open Go.RowKit Go.Maps Go.ChangeShapes Go.WideShapes Go.ChangeAt Go.Deep

def chO (k : Int) : Bool := k == 18 || k == 21 || k == 22 || k == 23
theorem opD_at {D : Do} {o : Opn} (h : (opD D o).1 = 0) (hk : o.k = 18 ∨ o.k = 21 ∨ o.k = 22 ∨ o.k = 23) : (o.k = 23 → (opD D o).2 = none) ∧ (o.k ≠ 23 → (opD D o).2 = some (afB (opD D o))) := by
  have key : o.k ≠ 23 → ∃ d, (opD D o).2 = some d := by
    intro h23
    unfold opD at h ⊢
    by_cases c1 : o.k = 18
    · rw [if_pos c1] at h ⊢
      unfold newD at h ⊢
      by_cases hn : okN o.num
      · rw [if_neg (not_not_intro hn)] at h ⊢
        cases hd : D o.num with
        | none => exact ⟨_, rfl⟩
        | some d => rw [hd] at h; exact absurd (show (160 : Int) = 0 from h) (by decide)
      · rw [if_pos hn] at h; exact absurd h (by decide)
    rw [if_neg c1] at h ⊢
    by_cases c2 : o.k = 21
    · rw [if_pos c2] at h ⊢
      unfold wrD at h ⊢
      by_cases c0 : erD D o.num ≠ 0
      · rw [if_pos c0] at h; exact absurd h c0
      rw [if_neg c0] at h ⊢
      by_cases c4 : o.at_ < 0 ∨ ((dtD D o.num).size : Int) < o.at_
      · rw [if_pos c4] at h; exact absurd h (by decide)
      rw [if_neg c4] at h ⊢
      by_cases c5 : 64 < o.val.size ∨ 4096 < o.at_ + o.val.size
      · rw [if_pos c5] at h; exact absurd h (by decide)
      rw [if_neg c5]
      exact ⟨_, rfl⟩
    rw [if_neg c2] at h ⊢
    by_cases c3 : o.k = 22
    · rw [if_pos c3] at h ⊢
      unfold cutD at h ⊢
      by_cases c0 : erD D o.num ≠ 0
      · rw [if_pos c0] at h; exact absurd h c0
      rw [if_neg c0] at h ⊢
      by_cases c4 : o.len < 0 ∨ ((dtD D o.num).size : Int) < o.len
      · rw [if_pos c4] at h; exact absurd h (by decide)
      rw [if_neg c4]
      exact ⟨_, rfl⟩
    omega
  refine ⟨fun h23 => ?_, fun h23 => ?_⟩
  · unfold opD
    rw [if_neg (by omega), if_neg (by omega), if_neg (by omega)]
    rfl
  · obtain ⟨d, hd⟩ := key h23
    unfold afB
    rw [hd]
    rfl
theorem pcO_dt {D : Do} {num : Int} (h : okN num) : (erD D num = 0 → pcO (D num) = cutB (dtD D num)) ∧ (erD D num ≠ 0 → pcO (D num) = []) := by
  unfold erD dtD
  rw [if_neg (not_not_intro h), if_neg (not_not_intro h)]
  cases D num with
  | none => exact ⟨fun h => absurd h (by decide), fun _ => rfl⟩
  | some d => exact ⟨fun _ => rfl, fun h => absurd rfl h⟩
set_option maxRecDepth 100000 in
set_option maxHeartbeats 24000000 in
theorem walk_LobRuns (v : Value) (os : List Opn) (w : World) (h : OpsIn w v os) :
    Calls Tryz.prog 3 #[v] w fun e w' => e = .returned (.bool true) ∧ Below w.heap.size w w' := by
  have P0 := Lib.hid h
  obtain ⟨oa, oc, rfl, -⟩ := h.at_
  obtain ⟨ol, hol⟩ : ∃ ol, ol = os.length := ⟨_, rfl⟩
  have OL := Lib.hid (show ol = os.length ∧ ol ≤ maxLen from ⟨hol, by rw [hol]; exact h.len⟩)
  rw [← hol] at P0 ⊢
  have CA := Lib.hid (awake17 w)
  clear h hol
  go_enter Tryz.func3, Tryz.ntmps3
  go_wp2_with fail
  refine CA.out.mono ?_
  rintro e w1 ⟨rfl, hb⟩
  have B1 := Lib.hid hb
  have P1 := Lib.hid (P0.out.kept hb)
  have CV := Lib.hid (volume17 w1)
  have SZ := Lib.hid hb.size
  clear hb CA P0
  as_aux_lemma =>
    have p9 : ol ≤ 9223372036854775807 := by have := OL.out.2; unfold maxLen at this; omega
    by_cases c60 : (60 : Int) < (ol : Int)
    · as_aux_lemma =>
        go_wp2
        go_ret
        exact ⟨rfl, B1.out⟩
    have P60 := Lib.hid (show ol ≤ 60 by omega)
    have c60n : ¬ 60 < ol := by omega
    as_aux_lemma =>
    go_wp2_with fail
    refine CV.out.mono ?_
    rintro e w2 ⟨g, b, gs, r, rfl, hv, hb⟩
    obtain ⟨G, hG⟩ : ∃ G, G = w2.heap.size := ⟨_, rfl⟩
    have V3 := Lib.hid (hv.kept ((Below.refl w2.heap.size w2).alloc (Nat.le_refl _) (.cells #[.slice none 0 0, .slice none 0 0] 31)))
    have B3 := Lib.hid (hb.alloc hb.size (.cells #[.slice none 0 0, .slice none 0 0] 31))
    have R3 := Lib.hid (show Rf (w2.alloc (.cells #[.slice none 0 0, .slice none 0 0] 31)) G [] from by
      rw [hG]
      exact ⟨⟨_, _, Bk.new w2 _ _, World.ownsRow_nil _ _ _ _, World.ownsRow_nil _ _ _ _⟩, by decide, fun x hx => by cases hx⟩)
    have BG := Lib.hid (show w1.heap.size ≤ b ∧ (g < G ∧ b < G ∧ gs < G ∧ r < G) ∧ w1.heap.size ≤ G from by rw [hG]; exact ⟨hv.lo.b_ge, hv.lo.ne, hb.size⟩)
    have RD0 : RD [] (fun _ => none) := ⟨List.nodup_nil, fun n d => ⟨(fun h => (by cases h)), (fun h => (by cases h))⟩⟩
    clear hv hb CV c60 c60n
    as_aux_lemma =>
      go_upto_region 9 with fail
      change Code.wp _ _ _ _ (w2.alloc (.cells #[.slice none 0 0, .slice none 0 0] 31))
      rw [← hG]
      clear hG
      generalize w2.alloc (.cells #[.slice none 0 0, .slice none 0 0] 31) = w3 at *
      go_upto_region 10 with fail
      go_loopw [46] (fun iv wr => ∃ (k M m : Nat) (D : Do) (l : List Ob), iv = .int .i64 k ∧ k ≤ ol ∧ M ≤ 5 + 10240 * k ∧ m ≤ 1 + 4 * k ∧ l.length ≤ k ∧ Od wr w1.heap.size g b gs r M D m ∧ Rf wr G l ∧ RD l D ∧ Below w1.heap.size w1 wr) (fun iv _ => ol - (RowKit.intOf iv).toNat)
      case atStart => exact ⟨0, _, _, _, [], rfl, Nat.zero_le _, Nat.le_refl _, Nat.le_refl _, Nat.le_refl _, V3.out, R3.out, RD0, B3.out⟩
      case round =>
        clear V3 B3 R3 RD0
        obtain ⟨k, M, m, D, l, rfl, hk, hM, hm, hl, hv, hr, hd, hb⟩ := hrel
        have V := Lib.hid hv; have BW := Lib.hid hb; have RR := Lib.hid hr; have DD := Lib.hid hd
        have N := Lib.hid (show k ≤ ol ∧ M ≤ 5 + 10240 * k ∧ m ≤ 1 + 4 * k ∧ l.length ≤ k from ⟨hk, hM, hm, hl⟩)
        clear hM hm hd hk hl hr
        by_cases hlt : k < ol
        · have HLT := Lib.hid hlt
          have hlti : (k : Int) < (ol : Int) := by omega
          have kb : k < 9223372036854775807 := by omega
          obtain ⟨o, ho⟩ : ∃ o, os[k]? = some o := ⟨_, List.getElem?_eq_getElem (by rw [← OL.out.1]; exact hlt)⟩
          have OK := Lib.hid ((P1.out.kept hb).bd o (List.mem_of_getElem? ho))
          obtain ⟨ob, ooff, rfl, hro⟩ : ∃ ob ooff, oa = some (⟨ob, ooff, none⟩ : Addr) ∧ wr.rangeAt ob (ooff + k * 7) o.cs.toList := by
            obtain ⟨a', c', e1, hc⟩ := (P1.out.kept hb).at_
            obtain ⟨b', off, e2, -, e3⟩ := hc (by rw [← OL.out.1]; omega)
            injection e1 with e1
            exact ⟨b', off, by rw [e1]; exact e2, e3 k o ho⟩
          have RO := Lib.hid hro
          have BB : Below wr.heap.size wr (wr.alloc (.cells o.cs 33)) := (Below.refl wr.heap.size wr).alloc (Nat.le_refl _) _
          have V7 := Lib.hid (hv.kept BB); have R7 := Lib.hid (RR.out.kept BB)
          have B7 := Lib.hid (hb.alloc hb.size (.cells o.cs 33))
          have K7 := Lib.hid (Bk.new wr 33 o.cs)
          have BR7 := Lib.hid BB
          clear ho hro hv hb hlt V BW BB
          as_aux_lemma =>
            go_upto_region 12 with (first | (refine load_op_off rfl _ rfl ob ooff k o rfl RO.out ?_) | (refine store_op_new rfl rfl _ _ rfl o rfl rfl ?_))
            obtain ⟨Q, hQ⟩ : ∃ Q, Q = wr.heap.size := ⟨_, rfl⟩
            have QH := Lib.hid hQ
            rw [← hQ] at K7 ⊢
            clear hQ RO
            generalize wr.alloc (.cells o.cs 33) = w7 at *
            have x0 : w7.cell? ⟨Q, 0, none⟩ = some (.int .i64 o.k) := K7.out.cell 0
            have NEXT := Lib.hid (show ∀ wx, Below w7.heap.size w7 wx → Od wx w1.heap.size g b gs r M D m ∧ Rf wx G l ∧ Below w1.heap.size w1 wx from fun wx hx => ⟨V7.out.kept hx, R7.out.kept hx, below_then B7.out hx B7.out.size⟩)
            obtain ⟨kk, hkk⟩ : ∃ kk, kk = o.k := ⟨_, rfl⟩
            have KK := Lib.hid hkk
            rw [← hkk] at x0
            have x4 : w7.cell? ⟨Q, 4, none⟩ = some (.int .i64 o.num) := K7.out.cell 4
            clear hkk
            by_cases k19 : kk = 19
            · subst k19
              have CL := Lib.hid (blen_any V7.out o.num)
              obtain ⟨ds, hds⟩ : ∃ ds, ds = dtD D o.num := ⟨_, rfl⟩
              obtain ⟨er, her⟩ : ∃ er, er = erD D o.num := ⟨_, rfl⟩
              rw [← hds, ← her] at CL
              as_aux_lemma =>
                go_wp2_with fail
                refine CL.out.mono ?_
                rintro e w8 ⟨rfl, hb⟩
                have B8 := Lib.hid hb
                have CG := Lib.hid (get17 (R7.out.kept hb) DD.out o.num)
                have x4 : w8.cell? ⟨Q, 4, none⟩ = some (.int .i64 o.num) := (K7.out.kept hb).cell 4
                rw [← hds, ← her] at CG
                clear hb CL hds her
                as_aux_lemma =>
                  go_wp2_with fail
                  refine CG.out.mono ?_
                  rintro e w9 ⟨rfl, hw⟩
                  rw [hw]
                  clear hw CG
                  as_aux_lemma =>
                    go_wp2
                    go_roundw
                    case rel =>
                      obtain ⟨n1, n2, n3⟩ := NEXT.out w8 B8.out
                      have := N.out
                      exact ⟨k + 1, M, m, D, l, by push_cast; rfl, by have := HLT.out; omega, by omega, by omega, by omega, n1, n2, DD.out, n3⟩
                    case measure => have := HLT.out; simp [RowKit.intOf]; omega
            by_cases k20 : kk = 20
            · subst k20
              have CL := Lib.hid (bread_any V7.out o.num o.at_ o.len)
              obtain ⟨rs, hrs⟩ : ∃ rs, rs = (rdD D o.num o.at_ o.len).1 := ⟨_, rfl⟩
              obtain ⟨er, her⟩ : ∃ er, er = (rdD D o.num o.at_ o.len).2 := ⟨_, rfl⟩
              rw [← hrs, ← her] at CL
              have x5 : w7.cell? ⟨Q, 5, none⟩ = some (.int .i64 o.at_) := K7.out.cell 5
              have x6 : w7.cell? ⟨Q, 6, none⟩ = some (.int .i64 o.len) := K7.out.cell 6
              clear k19
              as_aux_lemma =>
                go_wp2_with fail
                refine CL.out.mono ?_
                rintro e w8 ⟨rfl, hb⟩
                have B8 := Lib.hid hb
                have CG := Lib.hid (read17 (R7.out.kept hb) DD.out V7.out.sz o.num o.at_ o.len)
                have x4 : w8.cell? ⟨Q, 4, none⟩ = some (.int .i64 o.num) := (K7.out.kept hb).cell 4
                have x5 : w8.cell? ⟨Q, 5, none⟩ = some (.int .i64 o.at_) := (K7.out.kept hb).cell 5
                have x6 : w8.cell? ⟨Q, 6, none⟩ = some (.int .i64 o.len) := (K7.out.kept hb).cell 6
                rw [← hrs, ← her] at CG
                have es : (rs.toList == rs.toList) = true := by simp
                clear hb CL hrs her
                as_aux_lemma =>
                  go_wp2_with fail
                  refine CG.out.mono ?_
                  rintro e w9 ⟨rfl, hw⟩
                  rw [hw]
                  clear hw CG
                  as_aux_lemma =>
                    go_wp2
                    go_roundw
                    case rel =>
                      obtain ⟨n1, n2, n3⟩ := NEXT.out w8 B8.out
                      have := N.out
                      exact ⟨k + 1, M, m, D, l, by push_cast; rfl, by have := HLT.out; omega, by omega, by omega, by omega, n1, n2, DD.out, n3⟩
                    case measure => have := HLT.out; simp [RowKit.intOf]; omega
            have bk19 : (kk == 19) = false := by simp [k19]
            have bk20 : (kk == 20) = false := by simp [k20]
            go_upto_if 109 with fail
            go_cut [109] (fun s wx => s = .bool (chO kk) ∧ wx = w7)
            case first =>
              clear bk19 bk20
              by_cases k1 : kk = 18
              · subst k1
                clear k19 k20
                go_wp2
                go_meet
                exact ⟨rfl, rfl⟩
              have b1 : (kk == 18) = false := by simp [k1]
              by_cases k2 : kk = 21
              · subst k2
                clear k19 k20 k1
                go_wp2
                go_meet
                exact ⟨rfl, rfl⟩
              have b2 : (kk == 21) = false := by simp [k2]
              by_cases k3 : kk = 22
              · subst k3
                clear k19 k20 k1 k2
                go_wp2
                go_meet
                exact ⟨rfl, rfl⟩
              have b3 : (kk == 22) = false := by simp [k3]
              by_cases k4 : kk = 23
              · subst k4
                clear k19 k20 k1 k2 k3
                go_wp2
                go_meet
                exact ⟨rfl, rfl⟩
              have b4 : (kk == 23) = false := by simp [k4]
              have CF := Lib.hid (show chO kk = false by unfold chO; simp [k1, k2, k3, k4])
              clear k19 k20
              go_wp2
              go_meet
              exact ⟨by rw [CF.out], rfl⟩
            case rest =>
              obtain ⟨rfl, hw7⟩ := hcut
              rw [hw7]
              clear hw7
              obtain ⟨ck, hck⟩ : ∃ ck, ck = chO kk := ⟨_, rfl⟩
              have CK := Lib.hid hck
              rw [← hck]
              clear hck bk19 bk20 k19 k20
              cases ck with
              | false =>
                as_aux_lemma =>
                  go_wp2
                  go_roundw
                  case rel => exact ⟨k + 1, M, m, D, l, by push_cast; rfl, by have := HLT.out; omega, by have := N.out; omega, by have := N.out; omega, by have := N.out; omega, V7.out, R7.out, DD.out, B7.out⟩
                  case measure => have := HLT.out; simp [RowKit.intOf]; omega
              | true =>
                have CS := Lib.hid (steps17 V7.out o OK.out)
                have KC := Lib.hid (show kk = 18 ∨ kk = 21 ∨ kk = 22 ∨ kk = 23 from by
                  have := CK.out
                  unfold chO at this
                  simpa [or_assoc] using this.symm)
                clear x0 x4 CK
                as_aux_lemma =>
                  go_wp2_with (refine load_op rfl _ rfl Q o rfl K7.out ?_)
                  refine CS.out.mono ?_
                  rintro e w8 ⟨sv, rfl, h1, h2, hb⟩
                  have V8 := Lib.hid (V7.out.kept hb); have B8 := Lib.hid (below_then B7.out hb B7.out.size); have K8 := Lib.hid (K7.out.kept hb); have R8 := Lib.hid (R7.out.kept hb)
                  have S8 := Lib.hid hb
                  have CA := Lib.hid (after17 R8.out DD.out V8.out.sz o OK.out)
                  have H1 := Lib.hid h1; have H2 := Lib.hid h2
                  obtain ⟨xe, hxe⟩ : ∃ xe, xe = (opD D o).1 := ⟨_, rfl⟩
                  have XE := Lib.hid hxe
                  rw [← hxe] at H1 H2 ⊢
                  clear h1 h2 hb CS hxe
                  as_aux_lemma =>
                    go_wp2_with (refine load_op rfl _ rfl Q o rfl K8.out ?_)
                    refine CA.out.mono ?_
                    rintro e w9 ⟨rfl, hb⟩
                    rw [← XE.out]
                    obtain ⟨xb, hxb⟩ : ∃ xb, xb = afB (opD D o) := ⟨_, rfl⟩
                    have XB := Lib.hid hxb
                    rw [← hxb]
                    clear hxb CA
                    by_cases e0 : xe = 0
                    · subst e0
                      obtain ⟨hok, ho⟩ := H2.out rfl
                      have XE0 : (opD D o).1 = 0 := XE.out.symm
                      obtain ⟨-, o1, o2⟩ := opD_ok V8.out.sz o XE0
                      obtain ⟨d1, d2⟩ := opD_at XE0 (by rw [← KK.out]; exact KC.out)
                      obtain ⟨x2, hx2⟩ : ∃ x2, x2 = (opD D o).2 := ⟨_, rfl⟩
                      rw [← hx2] at o1 o2 d1 d2 ho
                      rw [← XB.out, ← KK.out] at d2
                      rw [← KK.out] at d1
                      obtain ⟨frm, hfr⟩ : ∃ frm, frm = pcO (D o.num) := ⟨_, rfl⟩
                      obtain ⟨tos, hto⟩ : ∃ tos, tos = pcO x2 := ⟨_, rfl⟩
                      have l1 : frm.length ≤ 256 := by rw [hfr]; exact pcO_len _ (fun d hd => V8.out.sz o.num d hd)
                      have l2 : tos.length ≤ 256 := by rw [hto]; exact pcO_len _ o1
                      have CLD := Lib.hid (fun (wz : World) (hz : Od wz w1.heap.size g b gs r M D m) (hw : StOwn wz w7.heap.size sv o.num (stepL (pcO (D o.num)) (pcO x2) (max (pcO (D o.num)).length (pcO x2).length))) => ch_land hz o.num hok x2 o1 sv w7.heap.size hw V7.out.lo.ne.2.1 (by have := N.out; have := P60.out; omega) 4 o2 (by have := N.out; have := P60.out; omega))
                      rw [← hfr, ← hto] at ho CLD
                      obtain ⟨ss, hss⟩ : ∃ ss, ss = stepL frm tos (max frm.length tos.length) := ⟨_, rfl⟩
                      have LEN := Lib.hid (show ss.length ≤ 1000 by
                        rw [hss]
                        have := stepL_len frm tos (max frm.length tos.length)
                        omega)
                      have SS := Lib.hid hss
                      rw [← hss] at ho CLD
                      have HOK := Lib.hid hok; have LL := Lib.hid (And.intro l1 l2)
                      have XS := Lib.hid (show xb.size ≤ 4096 from by
                        rw [XB.out]
                        unfold afB
                        rw [← hx2]
                        cases x2 with
                        | none => decide
                        | some d => exact o1 d rfl)
                      have T23 := Lib.hid (show (kk = 23 → tos = []) ∧ (kk ≠ 23 → tos = cutB xb ∧ x2 = some xb) ∧ (kk = 23 → x2 = none) from ⟨fun h => by rw [hto, d1 h]; rfl, fun h => ⟨by rw [hto, d2 h]; rfl, d2 h⟩, d1⟩)
                      have GF := Lib.hid (show (erD D o.num = 0 → frm = cutB (dtD D o.num)) ∧ (erD D o.num ≠ 0 → frm = []) from by rw [hfr]; exact pcO_dt hok)
                      have SDT := Lib.hid (show (dtD D o.num).size ≤ 4096 from dtD_size V8.out.sz o.num)
                      have ALL := Lib.hid (show ∀ wx, Below w8.heap.size w8 wx → Od wx w1.heap.size g b gs r M D m ∧ Rf wx G l ∧ Bk wx Q 33 o.cs ∧ StOwn wx w7.heap.size sv o.num ss ∧ Below w1.heap.size w1 wx ∧ Below wr.heap.size wr wx from fun wx hx => ⟨V8.out.kept hx, R8.out.kept hx, K8.out.kept hx, ow_kept ho hx, below_then B8.out hx B8.out.size, below_then (below_then BR7.out S8.out BR7.out.size) hx (Nat.le_trans BR7.out.size S8.out.size)⟩)
                      have C9 := Lib.hid hb
                      have CP0 := Lib.hid (pieces17 ⟨#[]⟩ (by decide) w9)
                      clear hok ho XE0 o1 o2 d1 d2 hx2 hfr hto l1 l2 hss hb H1 H2 V8 R8 B8 K8 XE XB
                      as_aux_lemma =>
                        go_wp2_with fail
                        refine CP0.out.mono ?_
                        rintro e w10 ⟨v0, rfl, -, hb⟩
                        have C10 := Lib.hid (below_then C9.out hb C9.out.size)
                        have CP1 := Lib.hid (pieces17 xb (by have := XS.out; omega) w10)
                        clear hb CP0
                        as_aux_lemma =>
                          go_wp2_with fail
                          refine CP1.out.mono ?_
                          rintro e w11 ⟨v1, rfl, t1, hb⟩
                          have C11 := Lib.hid (below_then C10.out hb C10.out.size)
                          have T1 := Lib.hid t1
                          have S10 := Lib.hid (Nat.le_trans S8.out.size C10.out.size)
                          have CG := Lib.hid (get17 (ALL.out w11 C11.out).2.1 DD.out o.num)
                          have x4 : w11.cell? ⟨Q, 4, none⟩ = some (.int .i64 o.num) := (ALL.out w11 C11.out).2.2.1.cell 4
                          obtain ⟨dt, hdt⟩ : ∃ dt, dt = dtD D o.num := ⟨_, rfl⟩
                          obtain ⟨ge, hge⟩ : ∃ ge, ge = erD D o.num := ⟨_, rfl⟩
                          rw [← hdt, ← hge] at CG
                          rw [← hdt, ← hge] at GF
                          rw [← hdt] at SDT
                          have CP2 := Lib.hid (pieces17 dt (by have := SDT.out; omega) w11)
                          clear t1 hb CP1 hdt hge
                          as_aux_lemma =>
                            go_wp2_with fail
                            refine CG.out.mono ?_
                            rintro e w12 ⟨rfl, hw⟩
                            rw [hw]
                            clear hw CG x4
                            go_upto_if 145 with fail
                            go_cut [20] (fun s wx => TxOwn wx w11.heap.size s frm ∧ Below w11.heap.size w11 wx)
                            case first =>
                              by_cases g0 : ge = 0
                              · have G0 := Lib.hid (GF.out.1 g0)
                                clear GF
                                subst g0
                                as_aux_lemma =>
                                  go_wp2_with fail
                                  refine CP2.out.mono ?_
                                  rintro e w12 ⟨v2, rfl, t2, hb⟩
                                  have T2 := Lib.hid (show TxOwn w12 w11.heap.size v2 frm from by rw [G0.out]; exact t2)
                                  have BX := Lib.hid hb
                                  clear t2 hb CP2
                                  go_wp2
                                  go_meet
                                  exact ⟨T2.out, BX.out⟩
                              · have eg : (ge == 0) = false := by simp [g0]
                                have T2 := Lib.hid (show TxOwn w11 w11.heap.size (.slice none 0 0) frm from by rw [GF.out.2 g0]; exact World.ownsRow_nil _ _ _ _)
                                as_aux_lemma =>
                                  go_wp2
                                  go_meet
                                  exact ⟨T2.out, Below.refl _ _⟩
                            case rest =>
                              obtain ⟨t2, hb⟩ := hcut
                              have T20 := Lib.hid t2
                              have C12 := Lib.hid (below_then C11.out hb C11.out.size)
                              have T1b := Lib.hid (ow_kept T1.out hb)
                              have MID := Lib.hid (show ∀ wx, Hi G wr.heap.size wc wx → TxOwn wx w10.heap.size v1 (cutB xb) ∧ TxOwn wx w11.heap.size u20 frm ∧ Od wx w1.heap.size g b gs r M D m ∧ Bk wx Q 33 o.cs ∧ StOwn wx w7.heap.size sv o.num ss ∧ Below w1.heap.size w1 wx from fun wx hx => by
                                obtain ⟨a1, a2, a3, a4, a5, a6⟩ := ALL.out wc C12.out
                                have z1 : wr.heap.size ≤ w7.heap.size := BR7.out.size
                                have z2 := S8.out.size; have z3 := C10.out.size; have z4 := C11.out.size
                                refine ⟨ow_same T1b.out fun k hk => hx.mid ?_ (ow_blk T1b.out hk).2.1, ow_same T20.out fun k hk => hx.mid ?_ (ow_blk T20.out hk).2.1, a1.hi hx BG.out.2.1, ?_, ow_same a4 fun k hk => hx.mid ?_ (ow_blk a4 hk).2.1, ?_⟩
                                · have := (ow_blk T1b.out hk).1; omega
                                · have := (ow_blk T20.out hk).1; omega
                                · show wx.heap[Q]? = _
                                  rw [hx.mid (by rw [QH.out]; exact Nat.le_refl _) a3.lt]
                                  exact a3
                                · have := (ow_blk a4 hk).1; omega
                                · exact a5.trans ((hx.lowr (by obtain ⟨nv, bv, hbk, -⟩ := a2.ex; exact Nat.le_of_lt hbk.lt)).mono BG.out.2.2))
                              have x0 : wc.cell? ⟨Q, 0, none⟩ = some (.int .i64 kk) := by rw [KK.out]; exact (ALL.out wc C12.out).2.2.1.cell 0
                              have x4 : wc.cell? ⟨Q, 4, none⟩ = some (.int .i64 o.num) := (ALL.out wc C12.out).2.2.1.cell 4
                              have WR := Lib.hid (ALL.out wc C12.out).2.2.2.2.2
                              clear t2 hb CP2
                              as_aux_lemma =>
                                go_upto_if 150 with fail
                                go_cut [21] (fun s wx => TxOwn wx w10.heap.size s tos ∧ (∃ l', Rf wx G l' ∧ RD l' (setD D o.num x2) ∧ l'.length ≤ k + 1) ∧ Hi G wr.heap.size wc wx)
                                case first =>
                                  by_cases k23 : kk = 23
                                  · have CD := Lib.hid (drop17 RR.out WR.out DD.out o.num)
                                    have E1 := Lib.hid (T23.out.1 k23); have E2 := Lib.hid (T23.out.2.2 k23)
                                    subst k23
                                    as_aux_lemma =>
                                      go_wp2_with fail
                                      refine CD.out.mono ?_
                                      rintro e w13 ⟨rfl, hi, l', r', rd', ll⟩
                                      have FIN := Lib.hid (show TxOwn w13 w10.heap.size (.slice none 0 0) tos ∧ (∃ l', Rf w13 G l' ∧ RD l' (setD D o.num x2) ∧ l'.length ≤ k + 1) ∧ Hi G wr.heap.size wc w13 from ⟨by rw [E1.out]; exact World.ownsRow_nil _ _ _ _, ⟨l', r', by rw [E2.out]; exact rd', by have := N.out; omega⟩, hi⟩)
                                      clear hi r' rd' ll CD x0 x4
                                      go_wp2
                                      go_meet
                                      exact FIN.out
                                  · have ek : (kk == 23) = false := by simp [k23]
                                    have CD := Lib.hid (put17 RR.out WR.out DD.out o.num xb XS.out (by have := N.out; have := P60.out; omega))
                                    obtain ⟨E1, E2⟩ := T23.out.2.1 k23
                                    have E1 := Lib.hid E1; have E2 := Lib.hid E2
                                    clear k23
                                    as_aux_lemma =>
                                      go_wp2_with fail
                                      refine CD.out.mono ?_
                                      rintro e w13 ⟨rfl, hi, l', r', rd', ll⟩
                                      have FIN := Lib.hid (show TxOwn w13 w10.heap.size v1 tos ∧ (∃ l', Rf w13 G l' ∧ RD l' (setD D o.num x2) ∧ l'.length ≤ k + 1) ∧ Hi G wr.heap.size wc w13 from ⟨by rw [E1.out]; exact (MID.out w13 hi).1, ⟨l', r', by rw [E2.out]; exact rd', by have := N.out; omega⟩, hi⟩)
                                      clear hi r' rd' ll CD x0 x4
                                      go_wp2
                                      go_meet
                                      exact FIN.out
                                case rest =>
                                  obtain ⟨t21, ⟨l', r', rd', ll⟩, hi⟩ := hcut
                                  obtain ⟨-, m2, m3, m4, m5, m6⟩ := MID.out _ hi
                                  have T21 := Lib.hid t21; have T20b := Lib.hid m2; have V13 := Lib.hid m3; have ST13 := Lib.hid m5; have B13 := Lib.hid m6; have R13 := Lib.hid r'; have RD13 := Lib.hid rd'; have L13 := Lib.hid ll
                                  have x4 : wc.cell? ⟨Q, 4, none⟩ = some (.int .i64 o.num) := m4.cell 4
                                  have CS := steps17r o.num HOK.out u20 u21 frm tos wc (tx_row m2 (by have := LL.out; unfold maxLen; omega)) (tx_row t21 (by have := LL.out; unfold maxLen; omega)) (by have := LL.out; omega) (by have := LL.out; omega)
                                  rw [← SS.out] at CS
                                  have CS := Lib.hid CS
                                  clear t21 r' rd' ll hi m2 m3 m4 m5 m6 MID
                                  as_aux_lemma =>
                                    go_wp2_with fail
                                    refine CS.out.mono ?_
                                    rintro e w14 ⟨kv, yv, vv, rfl, sr, hb⟩
                                    have V14 := Lib.hid (V13.out.kept hb); have R14 := Lib.hid (R13.out.kept hb); have B14 := Lib.hid (below_then B13.out hb B13.out.size)
                                    have st : w14.ownsRow w7.heap.size 52 3 sv ss.length (stL o.num ss) := ow_kept ST13.out hb
                                    have STL := Lib.hid (show StOwn w14 w7.heap.size sv o.num ss from st)
                                    obtain ⟨n, hn⟩ : ∃ n, n = ss.length := ⟨_, rfl⟩
                                    have NN := Lib.hid (show n = ss.length ∧ n ≤ 1000 from ⟨hn, by rw [hn]; exact LEN.out⟩)
                                    have rk := sr.k; have ry := sr.y; have rv := sr.v
                                    rw [← hn] at st rk ry rv
                                    obtain ⟨la, lc, rfl⟩ := ow_slice st
                                    obtain ⟨ka, kc, rfl⟩ := ow_slice rk
                                    obtain ⟨ya, yc, rfl⟩ := ow_slice ry
                                    obtain ⟨va, vc, rfl⟩ := ow_slice rv
                                    have ST := Lib.hid st; have RK := Lib.hid rk; have RY := Lib.hid ry; have RV := Lib.hid rv
                                    clear sr hb st rk ry rv hn CS x4
                                    as_aux_lemma =>
                                      go_upto_region 47 with fail
                                      go_loopw [176] (fun iv wx => ∃ t : Nat, iv = .int .i64 t ∧ t ≤ n ∧ Below w14.heap.size w14 wx) (fun iv _ => n - (RowKit.intOf iv).toNat)
                                      case atStart => exact ⟨0, rfl, Nat.zero_le _, Below.refl _ _⟩
                                      case round =>
                                        obtain ⟨t, rfl, ht, hb⟩ := hrel
                                        have BI := Lib.hid hb; have TN := Lib.hid ht
                                        by_cases hlt : t < n
                                        · have LT := Lib.hid hlt
                                          have hlti : (t : Int) < (n : Int) := by omega
                                          have tb : t < 9223372036854775807 := by have := NN.out; omega
                                          obtain ⟨s, hs⟩ : ∃ s, ss[t]? = some s := ⟨_, List.getElem?_eq_getElem (by rw [← NN.out.1]; exact hlt)⟩
                                          obtain ⟨g2, lc', e1, -, hrow⟩ := st_at (ow_kept ST.out hb) hlt hs
                                          obtain ⟨rfl, rfl⟩ : la = some ⟨g2, 0, none⟩ ∧ lc = lc' := by injection e1 with a1 _ a2; exact ⟨a1, a2⟩
                                          have BB : Below wr.heap.size wr (wr.alloc (.cells (stC o.num s) 52)) := (Below.refl _ _).alloc (Nat.le_refl _) _
                                          have B5 := Lib.hid (below_then hb BB hb.size)
                                          obtain ⟨g3, c3, e3, z0⟩ := row_cell (ow_kept RK.out B5.out) (i := t) (u := .int .i64 s.k) (by unfold nmL; rw [List.getElem?_map, List.getElem?_map, hs]; rfl) hlt
                                          obtain ⟨rfl, rfl⟩ : ka = some ⟨g3, 0, none⟩ ∧ kc = c3 := by injection e3 with a1 _ a2; exact ⟨a1, a2⟩
                                          obtain ⟨g4, c4, e4, z1⟩ := row_cell (ow_kept RY.out B5.out) (i := t) (u := .string (lkey o.num s.i)) (by unfold txL; rw [List.getElem?_map, List.getElem?_map, hs]; rfl) hlt
                                          obtain ⟨rfl, rfl⟩ : ya = some ⟨g4, 0, none⟩ ∧ yc = c4 := by injection e4 with a1 _ a2; exact ⟨a1, a2⟩
                                          obtain ⟨g5, c5, e5, z2⟩ := row_cell (ow_kept RV.out B5.out) (i := t) (u := .string s.val) (by unfold txL; rw [List.getElem?_map, List.getElem?_map, hs]; rfl) hlt
                                          obtain ⟨rfl, rfl⟩ : va = some ⟨g5, 0, none⟩ ∧ vc = c5 := by injection e5 with a1 _ a2; exact ⟨a1, a2⟩
                                          have Z0 := Lib.hid z0; have Z1 := Lib.hid z1; have Z2 := Lib.hid z2
                                          have RW := Lib.hid hrow
                                          have KP := Lib.hid (Bk.new wr 52 (stC o.num s))
                                          clear hb ht hlt hs e1 e3 e4 e5 z0 z1 z2 hrow BB BI
                                          as_aux_lemma =>
                                            go_upto_region 49 with (first | (refine load_lst_off rfl _ rfl g2 t o.num s rfl RW.out ?_) | (refine store_lst_new rfl rfl _ _ rfl o.num s rfl rfl ?_))
                                            obtain ⟨PB, hPB⟩ : ∃ PB, PB = wr.heap.size := ⟨_, rfl⟩
                                            rw [← hPB] at KP ⊢
                                            clear hPB RW
                                            generalize wr.alloc (.cells (stC o.num s) 52) = w5 at *
                                            obtain ⟨K, hK⟩ : ∃ K, K = lkey o.num s.i := ⟨_, rfl⟩
                                            obtain ⟨sk, hsk⟩ : ∃ sk, sk = s.k := ⟨_, rfl⟩
                                            obtain ⟨sv3, hsv⟩ : ∃ sv3, sv3 = s.val := ⟨_, rfl⟩
                                            have y0 : w5.cell? ⟨PB, 0, none⟩ = some (.int .i64 sk) := by rw [hsk]; exact KP.out.cell 0
                                            have y1 : w5.cell? ⟨PB, 1, none⟩ = some (.string K) := by rw [hK]; exact KP.out.cell 1
                                            have y2 : w5.cell? ⟨PB, 2, none⟩ = some (.string sv3) := by rw [hsv]; exact KP.out.cell 2
                                            have z0 : w5.cell? ⟨g3, t, none⟩ = some (.int .i64 sk) := by rw [hsk]; exact Z0.out
                                            have z1 : w5.cell? ⟨g4, t, none⟩ = some (.string K) := by rw [hK]; exact Z1.out
                                            have z2 : w5.cell? ⟨g5, t, none⟩ = some (.string sv3) := by rw [hsv]; exact Z2.out
                                            have es1 : (K.toList == K.toList) = true := by simp
                                            have es2 : (sv3.toList == sv3.toList) = true := by simp
                                            clear hK hsk hsv Z0 Z1 Z2 KP
                                            go_quiet (fail)
                                            have B6 := Lib.hid (below_drewN B5.out nq)
                                            generalize w5.drewN nq = w9 at *
                                            clear y0 y1 y2 z0 z1 z2 B5
                                            go_wp2
                                            go_roundw
                                            case rel => exact ⟨t + 1, by push_cast; rfl, by have := LT.out; omega, B6.out⟩
                                            case measure => have := LT.out; simp [RowKit.intOf]; omega
                                        · obtain rfl : t = n := by omega
                                          have hni : ¬ (t : Int) < (t : Int) := by omega
                                          have CL := Lib.hid (CLD.out wr (V14.out.kept hb) (ow_kept STL.out hb))
                                          have R15 := Lib.hid (R14.out.kept hb); have B15 := Lib.hid (below_then B14.out hb B14.out.size)
                                          clear ht hb hlt CLD BI
                                          as_aux_lemma =>
                                            go_wp2_with fail
                                            refine CL.out.mono ?_
                                            rintro e w16 ⟨rfl, hv, hg⟩
                                            have V16 := Lib.hid hv; have R16 := Lib.hid (R15.out.grown hg BG.out.2.1.2.1)
                                            have B16 := Lib.hid (bl_grow B15.out hg (fun k hk => by cases hk; exact BG.out.1) B15.out.size)
                                            clear hv hg CL
                                            go_wp2
                                            go_roundw
                                            case rel => exact ⟨k + 1, M + 10240, m + 4, setD D o.num x2, l', by push_cast; rfl, by have := HLT.out; omega, by have := N.out; omega, by have := N.out; omega, by have := L13.out; omega, V16.out, R16.out, RD13.out, B16.out⟩
                                            case measure => have := HLT.out; simp [RowKit.intOf]; omega
                    · have hsv := H1.out e0
                      subst hsv
                      have e0b : (xe == 0) = false := by simp [e0]
                      have n1 : Od w9 w1.heap.size g b gs r M D m := V8.out.kept hb
                      have n2 := R8.out.kept hb
                      have n3 := below_then B8.out hb B8.out.size
                      have NX := Lib.hid (And.intro n1 (And.intro n2 n3))
                      clear n1 n2 n3 hb
                      as_aux_lemma =>
                        go_wp2
                        go_roundw
                        case rel => exact ⟨k + 1, M, m, D, l, by push_cast; rfl, by have := HLT.out; omega, by have := N.out; omega, by have := N.out; omega, by have := N.out; omega, NX.out.1, NX.out.2.1, DD.out, NX.out.2.2⟩
                        case measure => have := HLT.out; simp [RowKit.intOf]; omega
        · obtain rfl : k = ol := by have := N.out; omega
          have hni : ¬ (k : Int) < (k : Int) := by omega
          have CLL := Lib.hid (list17 hv)
          have GH := Lib.hid hv
          clear hlt hv hb
          as_aux_lemma =>
            go_wp2_with fail
            refine CLL.out.mono ?_
            rintro e w8 ⟨lv, rfl, ho, hb⟩
            have O8 := Lib.hid ho; have B8 := Lib.hid (below_then BW.out hb BW.out.size)
            have CR := Lib.hid (list17r (RR.out.kept hb) DD.out)
            have LOB := Lib.hid (show (objsL D).length ≤ 1000000 from Nat.le_trans (show (upL D 1000).length ≤ 1000 from upL_len D 1000) (by decide))
            clear ho hb CLL
            as_aux_lemma =>
              go_wp2_with fail
              refine CR.out.mono ?_
              rintro e w9 ⟨rv, rfl, hr2, hb⟩
              have SA := Lib.hid (same17 (ow_kept O8.out hb) hr2 LOB.out)
              have B9 := Lib.hid (below_then B8.out hb B8.out.size)
              clear hr2 hb CR
              as_aux_lemma =>
                go_wp2_with fail
                refine SA.out.mono ?_
                rintro e w10 ⟨rfl, hb⟩
                have B10 := Lib.hid (below_then B9.out hb B9.out.size)
                clear hb SA
                go_wp2
                go_ret
                exact ⟨rfl, B1.out.trans (B10.out.mono SZ.out)⟩
end Go.Proofs.YtaiiimlmkigajaaGreat
