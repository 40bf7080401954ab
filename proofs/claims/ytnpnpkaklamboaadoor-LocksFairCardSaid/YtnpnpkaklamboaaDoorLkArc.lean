/- Who waits for whom at one name. -/
import Derived.Test.YtnpnpkaklamboaaDoorLkRel2
set_option linter.unusedVariables false
set_option linter.unusedSimpArgs false
namespace Go.Proofs.YtnpnpkaklamboaaDoor
open Go.RowKit Go.Shelf

@[reducible] def pC (p : Int × Int) : List Value := [.int .i64 p.1, .int .i64 p.2]
@[reducible] def pV (p : Int × Int) : Value := .agg #[.int .i64 p.1, .int .i64 p.2]
theorem pC_len (p : Int × Int) : (pC p).length = 2 := rfl
theorem pC_one (p : Int × Int) : ∀ u ∈ pC p, u.oneCell' = true := by simp [pC, Value.oneCell']
def aH1 (h o : Hold) : List (Int × Int) := if (o.x != h.x && !cpN h.w o.m) = true then [(h.x, o.x)] else []
def aH (l : List Hold) (h : Hold) : List (Int × Int) := if h.w = 0 then [] else l.flatMap (aH1 h)
def aW1 (p : Int × Nat) (o : Hold) : List (Int × Int) := if (o.w != 0 || !cpN p.2 o.m) = true then [(p.1, o.x)] else []
def aW2 (p o : Int × Nat) : List (Int × Int) := [(p.1, o.1)]
def aW (q : Que) (i : Nat) : List (Int × Int) := match q.ws[i]? with | none => [] | some p => q.hs.flatMap (aW1 p) ++ (q.ws.take i).flatMap (aW2 p)
def Que.arcs (q : Que) : List (Int × Int) := q.hs.flatMap (aH q.hs) ++ (List.range q.ws.length).flatMap (aW q)
theorem fm_len {α β : Type} {f : α → List β} {c : Nat} : ∀ {l : List α}, (∀ x, x ∈ l → (f x).length ≤ c) → (l.flatMap f).length ≤ l.length * c
  | [], _ => by simp
  | x :: l, h => by
    rw [List.flatMap_cons, List.length_append, List.length_cons, Nat.add_mul]
    have := h x List.mem_cons_self
    have := fm_len (l := l) fun y hy => h y (List.mem_cons_of_mem _ hy)
    omega
theorem fm_take {α β : Type} (f : α → List β) (l : List α) (i : Nat) (hi : i < l.length) : (l.take (i + 1)).flatMap f = (l.take i).flatMap f ++ f l[i] := by
  rw [List.take_succ_eq_append_getElem hi, List.flatMap_append]
  simp
theorem fm_range {β : Type} (f : Nat → List β) (i : Nat) : (List.range (i + 1)).flatMap f = (List.range i).flatMap f ++ f i := by
  rw [List.range_succ, List.flatMap_append]
  simp
theorem aH1_len (h o : Hold) : (aH1 h o).length ≤ 1 := by unfold aH1; split <;> simp
theorem aW1_len (p : Int × Nat) (o : Hold) : (aW1 p o).length ≤ 1 := by unfold aW1; split <;> simp
theorem aH_len (l : List Hold) (h : Hold) : (aH l h).length ≤ l.length := by
  unfold aH
  split
  · simp
  · have := fm_len (l := l) (f := aH1 h) fun o _ => aH1_len h o
    omega
theorem aW_len {q : Que} (i : Nat) : (aW q i).length ≤ q.hs.length + q.ws.length := by
  unfold aW
  split
  · simp
  · rename_i p _
    have a := fm_len (l := q.hs) (f := aW1 p) fun o _ => aW1_len p o
    have b := fm_len (l := q.ws.take i) (f := aW2 p) (c := 1) fun o _ => Nat.le_refl _
    rw [List.length_append]
    have := List.length_take_le i q.ws
    have := List.length_take_le' i q.ws
    omega
theorem arcs_len {q : Que} {N : Nat} (h : q.few N) (hN : N ≤ 1000) : q.arcs.length ≤ 2000000 := by
  obtain ⟨h1, _⟩ := h
  unfold Que.arcs
  rw [List.length_append]
  have a := fm_len (l := q.hs) (f := aH q.hs) fun o _ => aH_len q.hs o
  have b := fm_len (l := List.range q.ws.length) (f := aW q) fun i _ => aW_len (q := q) i
  rw [List.length_range] at b
  have c : q.hs.length * q.hs.length ≤ 1000 * 1000 := Nat.mul_le_mul (by omega) (by omega)
  have d : q.ws.length * (q.hs.length + q.ws.length) ≤ 1000 * 1000 := Nat.mul_le_mul (by omega) (by omega)
  omega
theorem Rk.cells_at {α : Type} {w : World} {F : Nat → Prop} {e : TypeId} {k : Nat} {enc : α → List Value} {l : List α} {ha : Option Addr} {n hc : Nat} (h : Rk w F e k enc (.slice ha n hc) l) {j : Nat} (hj : j < l.length) : ∃ b off, ha = some ⟨b, off, none⟩ ∧ w.rangeAt b (off + j * k) (enc l[j]) := by
  rcases h with ⟨_, rfl⟩ | ⟨b, off, cap, cur, hv, hF, hA⟩
  · exact absurd hj (Nat.not_lt_zero _)
  · refine ⟨b, off, ?_, hA.range hj⟩
    have : ha = some ⟨b, off, none⟩ ∧ n = l.length ∧ hc = cap := by simpa using hv
    exact this.1
/-- Arcs under way. -/
structure AM (B : Nat) (w0 : World) (F : Nat → Prop) (g : Nat) (vh ve vw : Value) (q : Que) (w : World) (v : Value) (A : List (Int × Int)) : Prop where
  kp : Below B w0 w
  qm : Qm w F g vh ve vw q
  row : Rk w (fun i => B ≤ i) 41 2 pC v A
  tab : Tab w
  fl : ∀ i, F i → i < B
  rt : 0 < B
  le : B ≤ w0.heap.size
section
variable {B : Nat} {w0 w w' : World} {F : Nat → Prop} {g : Nat} {vh ve vw v v' : Value} {q : Que} {A : List (Int × Int)}
theorem AM.below (h : AM B w0 F g vh ve vw q w v A) (hb : Below w.heap.size w w') : AM B w0 F g vh ve vw q w' v A :=
  ⟨below_then h.kp hb (Nat.le_trans h.le h.kp.size), h.qm.kept hb, h.row.kept hb, h.tab.below hb, h.fl, h.rt, h.le⟩
theorem AM.as (h : AM B w0 F g vh ve vw q w v A) {A' : List (Int × Int)} (e : A = A') : AM B w0 F g vh ve vw q w v A' := e ▸ h
theorem AM.app (h : AM B w0 F g vh ve vw q w v A) {p : Int × Int} (hg : w.grownBy w' v.ownBlock) (hr : Rk w' (Ext (fun i => B ≤ i) w w') 41 2 pC v' (A ++ [p])) : AM B w0 F g vh ve vw q w' v' (A ++ [p]) := by
  have sz := h.kp.size
  have le := h.le
  have hb : Below B w w' := ⟨hg.os, hg.tape, hg.output, hg.size, fun i hi => hg.block i (by omega) fun e => by
    have := own_in h.row i e.symm
    omega⟩
  have e := hb.block 0 h.rt
  refine ⟨h.kp.trans hb, h.qm.same fun i hi _ => hb.block i (h.fl i hi), hr.mono fun i hi => ?_, ⟨Nat.lt_of_lt_of_le h.tab.1 hg.size, fun i hi => by rw [World.cell?_of_block (w := w) e]; exact h.tab.2 i hi⟩, h.fl, h.rt, h.le⟩
  rcases hi with hi | hi
  · exact hi
  · have := hi.1; omega
theorem AM.far (h : AM B w0 F g vh ve vw q w v A) (hg : w.grownBy w' v.ownBlock) {K : Nat} {t : TypeId} {cs : Array Value} (hK : Bk w K t cs) (ht : t ≠ 41) : Bk w' K t cs :=
  (hg.block K hK.lt fun e => by
    obtain ⟨cs', hb⟩ := own_bk h.row K e.symm
    exact Bk.ne_ hK hb ht rfl).trans hK
theorem AM.vv (h : AM B w0 F g vh ve vw q w v A) : ∃ a n c, v = .slice a n c := by
  obtain ⟨a, c, e⟩ := h.row.slice
  exact ⟨a, _, c, e⟩
end
theorem pair_cells (w : World) (x y : Int) (vb : Nat) (h : vb = w.heap.size) : ∀ j u, (pC (x, y))[j]? = some u → (w.alloc (.cells #[.int .i64 x, .int .i64 y] 41)).cell? ((⟨vb, 0, none⟩ : Addr).add j) = some u := fun j u hu => by
  rw [Addr.add_mid, Nat.zero_add, h, (Bk.new w _ _).cell]
  simpa using hu
set_option maxRecDepth 100000 in
set_option maxHeartbeats 40000000 in
theorem arcs_any {w : World} {F : Nat → Prop} {g B N : Nat} {vh ve vw v : Value} {q : Que} {A0 : List (Int × Int)} (h : AM B w F g vh ve vw q w v A0) (hbd : q.bd) (hfew : q.few N) (hN : N ≤ 1000) (hA : A0.length ≤ 900000000) :
    Calls Tryd.prog 24 #[ptr g, v] w fun e w' => ∃ v', e = .returned v' ∧ AM B w F g vh ve vw q w' v' (A0 ++ q.arcs) := by
  obtain ⟨I, hi, hz, hsz, hby⟩ : ∃ I, Tryd.prog.info? 41 = some I ∧ I.zero = some (.agg #[.int .i64 0, .int .i64 0]) ∧ I.size = 2 ∧ I.bytes = 16 := ⟨_, rfl, rfl, rfl, rfl⟩
  have HI := Lib.hid hi; have HZ := Lib.hid hz; have HSZ := Lib.hid hsz; have HBY := Lib.hid hby
  obtain ⟨ha, hc, hvh⟩ := h.qm.hs.slice
  obtain ⟨wa, wc, hvw⟩ := h.qm.ws.slice
  obtain ⟨n, hn⟩ : ∃ n, n = q.hs.length := ⟨_, rfl⟩
  obtain ⟨m, hm⟩ : ∃ m, m = q.ws.length := ⟨_, rfl⟩
  have NE := Lib.hid hn; have ME := Lib.hid hm
  rw [← hn] at hvh
  rw [← hm] at hvw
  subst hvh hvw
  have n63 : n ≤ 1000 := by have := hfew.1; omega
  have m63 : m ≤ 1000 := by have := hfew.1; omega
  have nm : n + m ≤ 1000 := by have := hfew.1; omega
  have NM := Lib.hid nm
  have BD := Lib.hid hbd
  have LA := Lib.hid hA
  have M0 := Lib.hid h
  obtain ⟨sa, sn, sc, rfl⟩ := h.vv
  have y0 : w.cell? ⟨g, 0, none⟩ = some (.slice ha n hc) := h.qm.bk.cell 0
  clear hi hz hsz hby hn hm hbd hfew hN hA h nm
  go_enter Tryd.func24, Tryd.ntmps24
  as_aux_lemma =>
    go_wp2_with fail
    go_loopw [1, 20] (fun s1 s20 wr => ∃ i : Nat, s20 = .int .i64 i ∧ i ≤ n ∧ Hid (AM B w F g (.slice ha n hc) ve (.slice wa m wc) q wr s1 (A0 ++ (q.hs.take i).flatMap (aH q.hs)))) (fun s1 s20 _ => n - (intOf s20).toNat)
    case atStart => exact ⟨0, rfl, Nat.zero_le _, Lib.hid (M0.out.as (by simp))⟩
    case round =>
      clear M0 y0
      obtain ⟨i, rfl, hin, hI⟩ := hrel
      by_cases hlt : i < n
      · have HLTh := Lib.hid hlt
        obtain ⟨h, hh⟩ : ∃ h, h = q.hs[i]'(by rw [← NE.out]; exact hlt) := ⟨_, rfl⟩
        obtain ⟨bh, fh, eh, rh⟩ := (show Rk wr F 66 3 hC (.slice ha n hc) q.hs from hI.out.qm.hs).cells_at (j := i) (by rw [← NE.out]; exact HLTh.out)
        rw [← hh] at rh
        have RH := Lib.hid rh
        have HH := Lib.hid hh
        subst eh
        clear rh hh
        go_upto_region 4 with (first | (refine load_hold rfl _ rfl bh (fh + i * 3) h rfl RH.out ?_))
        obtain ⟨K, hK⟩ : ∃ K, K = wr.heap.size := ⟨_, rfl⟩
        have BK := Lib.hid (show Bk (wr.alloc (.cells #[.int .i64 h.x, .int .i64 (h.m : Int), .int .i64 (h.w : Int)] 66)) K 66 #[.int .i64 h.x, .int .i64 (h.m : Int), .int .i64 (h.w : Int)] from by rw [hK]; exact Bk.new wr _ _)
        have M1 := Lib.hid (hI.out.below ((Below.refl wr.heap.size wr).alloc (Nat.le_refl _) (.cells #[.int .i64 h.x, .int .i64 (h.m : Int), .int .i64 (h.w : Int)] 66)))
        rw [← hK]
        clear hK hI 
        generalize wr.alloc (.cells #[.int .i64 h.x, .int .i64 (h.m : Int), .int .i64 (h.w : Int)] 66) = w1 at *
        clear RH
        have x0 : w1.cell? ⟨K, 2, none⟩ = some (.int .i64 (h.w : Int)) := BK.out.cell 2
        by_cases hw : h.w = 0
        · have z0 : ((h.w : Int) == 0) = true := by simp [hw]
          have TK := Lib.hid (show A0 ++ (q.hs.take i).flatMap (aH q.hs) = A0 ++ (q.hs.take (i + 1)).flatMap (aH q.hs) by
            rw [fm_take (aH q.hs) q.hs i (by rw [← NE.out]; exact hlt), ← HH.out]
            unfold aH
            rw [if_pos hw]
            simp)
          clear hw
          go_wp2
          go_roundw
          case rel => exact ⟨i + 1, by go_num, by have := HLTh.out; omega, Lib.hid (M1.out.as TK.out)⟩
          case measure => have := HLTh.out; simp [intOf]; omega
        · have z0 : ((h.w : Int) == 0) = false := by simp [hw]
          have z1 : ¬ ((h.w : Int) = 0) := by omega
          have HW := Lib.hid hw
          have y0 : w1.cell? ⟨g, 0, none⟩ = some (.slice (some ⟨bh, fh, none⟩) n hc) := M1.out.qm.bk.cell 0
          obtain ⟨A1, hA1⟩ : ∃ A1, A1 = A0 ++ (q.hs.take i).flatMap (aH q.hs) := ⟨_, rfl⟩
          have HA1 := Lib.hid hA1
          have L1 := Lib.hid (show A1.length ≤ 902000000 by
            rw [hA1, List.length_append]
            have a := fm_len (l := q.hs.take i) (f := aH q.hs) (c := 1000) fun o _ => Nat.le_trans (aH_len q.hs o) (by rw [← NE.out]; exact n63)
            have b := List.length_take_le i q.hs
            have := LA.out
            omega)
          rw [← hA1] at M1
          clear hA1 hw
          as_aux_lemma =>
            go_wp2_with fail
            go_loopw [1, 32] (fun s1 s32 wr => ∃ j : Nat, s32 = .int .i64 j ∧ j ≤ n ∧ Hid (AM B w F g (.slice (some ⟨bh, fh, none⟩) n hc) ve (.slice wa m wc) q wr s1 (A1 ++ (q.hs.take j).flatMap (aH1 h)) ∧ Bk wr K 66 #[.int .i64 h.x, .int .i64 (h.m : Int), .int .i64 (h.w : Int)])) (fun s1 s32 _ => n - (intOf s32).toNat)
            case atStart => exact ⟨0, rfl, Nat.zero_le _, Lib.hid ⟨M1.out.as (by simp), BK.out⟩⟩
            case round =>
              clear M1 BK y0 x0
              obtain ⟨j, rfl, hjn, hJ⟩ := hrel
              have BK := Lib.hid hJ.out.2
              have M1 := Lib.hid hJ.out.1
              clear hJ
              by_cases hlt : j < n
              · have HLTo := Lib.hid hlt
                obtain ⟨o, ho⟩ : ∃ o, o = q.hs[j]'(by rw [← NE.out]; exact hlt) := ⟨_, rfl⟩
                have RO := Lib.hid (show wr.rangeAt bh (fh + j * 3) (hC o) from by
                  obtain ⟨b2, f2, e2, r2⟩ := (show Rk wr F 66 3 hC (.slice (some ⟨bh, fh, none⟩) n hc) q.hs from M1.out.qm.hs).cells_at (j := j) (by rw [← NE.out]; exact hlt)
                  obtain ⟨rfl, rfl⟩ : bh = b2 ∧ fh = f2 := by simpa using e2
                  rw [ho]; exact r2)
                have OM := Lib.hid (show o.m ≤ 6 from (BD.out.hs o (by rw [ho]; exact List.getElem_mem _)).2.1)
                have HO := Lib.hid ho
                clear ho
                go_upto_region 8 with (first | (refine load_hold rfl _ rfl bh (fh + j * 3) o rfl RO.out ?_))
                obtain ⟨V, hV⟩ : ∃ V, V = wr.heap.size := ⟨_, rfl⟩
                have BV := Lib.hid (show Bk (wr.alloc (.cells #[.int .i64 o.x, .int .i64 (o.m : Int), .int .i64 (o.w : Int)] 66)) V 66 #[.int .i64 o.x, .int .i64 (o.m : Int), .int .i64 (o.w : Int)] from by rw [hV]; exact Bk.new wr _ _)
                have M2 := Lib.hid (M1.out.below ((Below.refl wr.heap.size wr).alloc (Nat.le_refl _) (.cells #[.int .i64 o.x, .int .i64 (o.m : Int), .int .i64 (o.w : Int)] 66)))
                have BKb := Lib.hid (BK.out.alloc (.cells #[.int .i64 o.x, .int .i64 (o.m : Int), .int .i64 (o.w : Int)] 66))
                rw [← hV]
                clear hV M1 BK
                generalize wr.alloc (.cells #[.int .i64 o.x, .int .i64 (o.m : Int), .int .i64 (o.w : Int)] 66) = w2 at *
                clear RO
                have T2 := Lib.hid (fm_take (aH1 h) q.hs j (by rw [← NE.out]; exact hlt))
                have x0 : w2.cell? ⟨K, 0, none⟩ = some (.int .i64 h.x) := BKb.out.cell 0
                have x2 : w2.cell? ⟨K, 2, none⟩ = some (.int .i64 (h.w : Int)) := BKb.out.cell 2
                have v0 : w2.cell? ⟨V, 0, none⟩ = some (.int .i64 o.x) := BV.out.cell 0
                have v1 : w2.cell? ⟨V, 1, none⟩ = some (.int .i64 (o.m : Int)) := BV.out.cell 1
                rw [← HO.out] at T2
                have CC := Lib.hid (comp_any (h.w : Int) (o.m : Int) w2 M2.out.tab)
                have CE := Lib.hid (show Md.comp (h.w : Int) (o.m : Int) = cpN h.w o.m from (cpN_eq (BD.out.hs h (by rw [HH.out]; exact List.getElem_mem _)).2.2 OM.out).symm)
                rw [CE.out] at CC
                obtain ⟨c, hc0⟩ : ∃ c, c = cpN h.w o.m := ⟨_, rfl⟩
                have HC := Lib.hid hc0
                rw [← hc0] at CC
                clear hc0 CE
                by_cases e : o.x = h.x
                · have e1 : (o.x != h.x) = false := by simp [e]
                  have TK := Lib.hid (show A1 ++ (q.hs.take j).flatMap (aH1 h) = A1 ++ (q.hs.take (j + 1)).flatMap (aH1 h) by
                    rw [T2.out]
                    unfold aH1
                    rw [e1]
                    simp)
                  clear e CC T2
                  go_wp2
                  go_roundw
                  case rel => exact ⟨j + 1, by go_num, by have := HLTo.out; omega, Lib.hid ⟨M2.out.as TK.out, BKb.out⟩⟩
                  case measure => have := HLTo.out; simp [intOf]; omega
                · have e1 : (o.x != h.x) = true := by simp [e]
                  have E1 := Lib.hid e1
                  clear e
                  as_aux_lemma =>
                    go_wp2_with fail
                    refine CC.out.mono ?_
                    rintro e w3 ⟨rfl, hb3⟩
                    have M3 := Lib.hid (M2.out.below hb3)
                    have BKc := Lib.hid (BKb.out.kept hb3)
                    have BVc := Lib.hid (BV.out.kept hb3)
                    clear CC M2 BKb BV x0 x2 v0 v1 hb3 e1
                    cases c with
                    | true =>
                      have TK := Lib.hid (show A1 ++ (q.hs.take j).flatMap (aH1 h) = A1 ++ (q.hs.take (j + 1)).flatMap (aH1 h) by
                        rw [T2.out]
                        unfold aH1
                        rw [← HC.out]
                        simp)
                      clear T2
                      go_wp2
                      go_roundw
                      case rel => exact ⟨j + 1, by go_num, by have := HLTo.out; omega, Lib.hid ⟨M3.out.as TK.out, BKc.out⟩⟩
                      case measure => have := HLTo.out; simp [intOf]; omega
                    | false =>
                      have TK := Lib.hid (show A1 ++ (q.hs.take j).flatMap (aH1 h) ++ [(h.x, o.x)] = A1 ++ (q.hs.take (j + 1)).flatMap (aH1 h) by
                        rw [T2.out]
                        unfold aH1
                        rw [← HC.out, E1.out]
                        simp)
                      have x0 : w3.cell? ⟨K, 0, none⟩ = some (.int .i64 h.x) := BKc.out.cell 0
                      have v0 : w3.cell? ⟨V, 0, none⟩ = some (.int .i64 o.x) := BVc.out.cell 0
                      have LD := Lib.hid (show (A1 ++ (q.hs.take j).flatMap (aH1 h)).length ≤ 903000000 by
                        rw [List.length_append]
                        have a := fm_len (l := q.hs.take j) (f := aH1 h) (c := 1) fun o _ => aH1_len h o
                        have b := List.length_take_le j q.hs
                        have := L1.out
                        omega)
                      clear T2
                      have M3p := Lib.hid (M3.out.below ((Below.refl w3.heap.size w3).alloc (Nat.le_refl _) (.cells #[.int .i64 h.x, .int .i64 o.x] 41)))
                      obtain ⟨vb, hvb⟩ : ∃ vb, vb = w3.heap.size := ⟨_, rfl⟩
                      have VB := Lib.hid hvb
                      have NP := Lib.hid (pair_cells w3 h.x o.x vb hvb)
                      have BKcp := Lib.hid (BKc.out.alloc (.cells #[.int .i64 h.x, .int .i64 o.x] 41))
                      clear hvb M3 BKc
                      go_wp2_with (first | (rw [← VB.out]; refine wpList_append_rk rfl _ _ 36 rfl I _ 16 Tryd.underlying36 HI.out HZ.out HSZ.out HBY.out rfl pC_len (by decide) pC_one _ (A1 ++ (q.hs.take j).flatMap (aH1 h)) rfl M3p.out.row (h.x, o.x) ⟨vb, 0, none⟩ 1 rfl NP.out (by have := LD.out; omega) (by have := LD.out; omega) ?_; intro v8 w8 hr8 hg8; have M8 := Lib.hid (M3p.out.app hg8 hr8); have BKcq := Lib.hid (M3p.out.far hg8 BKcp.out (by decide)); clear hr8 hg8 M3p NP BKcp) | fail)
                      go_roundw
                      case rel => exact ⟨j + 1, by go_num, by have := HLTo.out; omega, Lib.hid ⟨M8.out.as TK.out, BKcq.out⟩⟩
                      case measure => have := HLTo.out; simp [intOf]; omega
              · obtain rfl : j = n := by omega
                have TK := Lib.hid (show A1 ++ (q.hs.take j).flatMap (aH1 h) = A0 ++ (q.hs.take (i + 1)).flatMap (aH q.hs) by
                  have e : aH q.hs h = q.hs.flatMap (aH1 h) := by unfold aH; rw [if_neg HW.out]
                  rw [fm_take (aH q.hs) q.hs i (by rw [← NE.out]; exact HLTh.out), ← HH.out, e, NE.out, List.take_length, HA1.out, List.append_assoc])
                clear hlt
                go_wp2
                go_roundw
                case rel => exact ⟨i + 1, by go_num, by have := HLTh.out; omega, Lib.hid (M1.out.as TK.out)⟩
                case measure => have := HLTh.out; simp [intOf]; omega
      · obtain rfl : n = i := by omega
        have M0 := Lib.hid (hI.out.as (A' := A0 ++ q.hs.flatMap (aH q.hs)) (by rw [NE.out, List.take_length]))
        obtain ⟨A2, hA2⟩ : ∃ A2, A2 = A0 ++ q.hs.flatMap (aH q.hs) := ⟨_, rfl⟩
        have HA2 := Lib.hid hA2
        have L2 := Lib.hid (show A2.length ≤ 901000000 by
          rw [hA2, List.length_append]
          have a := fm_len (l := q.hs) (f := aH q.hs) (c := 1000) fun o _ => Nat.le_trans (aH_len q.hs o) (by rw [← NE.out]; exact n63)
          have := LA.out
          rw [← NE.out] at a
          omega)
        have FIN := Lib.hid (show A2 ++ (List.range q.ws.length).flatMap (aW q) = A0 ++ q.arcs by rw [hA2]; unfold Que.arcs; rw [List.append_assoc])
        rw [← hA2] at M0
        have y2 : wr.cell? ⟨g, 2, none⟩ = some (.slice wa m wc) := M0.out.qm.bk.cell 2
        clear hI hlt hA2 HA2 LA
        as_aux_lemma =>
          go_wp2_with fail
          go_loopw [1, 64] (fun s1 s64 wr => ∃ i : Nat, s64 = .int .i64 i ∧ i ≤ m ∧ Hid (AM B w F g (.slice ha n hc) ve (.slice wa m wc) q wr s1 (A2 ++ (List.range i).flatMap (aW q)))) (fun s1 s64 _ => m - (intOf s64).toNat)
          case atStart => exact ⟨0, rfl, Nat.zero_le _, Lib.hid (M0.out.as (by simp))⟩
          case round =>
            clear M0 y2
            obtain ⟨i, rfl, him, hI⟩ := hrel
            by_cases hlt : i < m
            · have HLTw := Lib.hid hlt
              obtain ⟨p, hp⟩ : ∃ p, p = q.ws[i]'(by rw [← ME.out]; exact hlt) := ⟨_, rfl⟩
              obtain ⟨bw, fw, ew, rw'⟩ := (show Rk wr F 68 2 wC (.slice wa m wc) q.ws from hI.out.qm.ws).cells_at (j := i) (by rw [← ME.out]; exact hlt)
              rw [← hp] at rw'
              have RW := Lib.hid rw'
              have HPp := Lib.hid hp
              subst ew
              clear rw' hp
              go_upto_region 15 with (first | (refine load_wish rfl _ rfl bw (fw + i * 2) p rfl RW.out ?_))
              obtain ⟨K, hK⟩ : ∃ K, K = wr.heap.size := ⟨_, rfl⟩
              have BK := Lib.hid (show Bk (wr.alloc (.cells #[.int .i64 p.1, .int .i64 (p.2 : Int)] 68)) K 68 #[.int .i64 p.1, .int .i64 (p.2 : Int)] from by rw [hK]; exact Bk.new wr _ _)
              have M1 := Lib.hid (hI.out.below ((Below.refl wr.heap.size wr).alloc (Nat.le_refl _) (.cells #[.int .i64 p.1, .int .i64 (p.2 : Int)] 68)))
              rw [← hK]
              clear hK hI 
              generalize wr.alloc (.cells #[.int .i64 p.1, .int .i64 (p.2 : Int)] 68) = w1 at *
              clear RW
              have y0 : w1.cell? ⟨g, 0, none⟩ = some (.slice ha n hc) := M1.out.qm.bk.cell 0
              obtain ⟨A3, hA3⟩ : ∃ A3, A3 = A2 ++ (List.range i).flatMap (aW q) := ⟨_, rfl⟩
              have HA3 := Lib.hid hA3
              have L3 := Lib.hid (show A3.length ≤ 902000000 by
                rw [hA3, List.length_append]
                have a := fm_len (l := List.range i) (f := aW q) (c := 1000) fun o _ => Nat.le_trans (aW_len o) (by rw [← NE.out, ← ME.out]; exact NM.out)
                rw [List.length_range] at a
                have := L2.out
                omega)
              rw [← hA3] at M1
              have AW := Lib.hid (show A3 ++ q.hs.flatMap (aW1 p) ++ (q.ws.take i).flatMap (aW2 p) = A2 ++ (List.range (i + 1)).flatMap (aW q) by
                rw [fm_range, hA3]
                conv => rhs; rw [aW]
                rw [List.getElem?_eq_getElem (by rw [← ME.out]; exact hlt), ← HPp.out]
                simp)
              have PM := Lib.hid (show p.2 ≤ 6 from (BD.out.ws p (by rw [HPp.out]; exact List.getElem_mem _)).2)
              clear hA3 HA3
              as_aux_lemma =>
                go_wp2_with fail
                go_loopw [1, 74] (fun s1 s74 wr => ∃ j : Nat, s74 = .int .i64 j ∧ j ≤ n ∧ Hid (AM B w F g (.slice ha n hc) ve (.slice (some ⟨bw, fw, none⟩) m wc) q wr s1 (A3 ++ (q.hs.take j).flatMap (aW1 p)) ∧ Bk wr K 68 #[.int .i64 p.1, .int .i64 (p.2 : Int)])) (fun s1 s74 _ => n - (intOf s74).toNat)
                case atStart => exact ⟨0, rfl, Nat.zero_le _, Lib.hid ⟨M1.out.as (by simp), BK.out⟩⟩
                case round =>
                  clear M1 BK y0
                  obtain ⟨j, rfl, hjn, hJ⟩ := hrel
                  have BK := Lib.hid hJ.out.2
                  have M1 := Lib.hid hJ.out.1
                  clear hJ
                  by_cases hlt : j < n
                  · have HLTo := Lib.hid hlt
                    obtain ⟨o, ho⟩ : ∃ o, o = q.hs[j]'(by rw [← NE.out]; exact hlt) := ⟨_, rfl⟩
                    obtain ⟨bo, fo, eo, ro⟩ := (show Rk wr F 66 3 hC (.slice ha n hc) q.hs from M1.out.qm.hs).cells_at (j := j) (by rw [← NE.out]; exact hlt)
                    rw [← ho] at ro
                    have RO := Lib.hid ro
                    subst eo
                    have OM := Lib.hid (show o.m ≤ 6 from (BD.out.hs o (by rw [ho]; exact List.getElem_mem _)).2.1)
                    have HO := Lib.hid ho
                    clear ho ro
                    go_upto_region 18 with (first | (refine load_hold rfl _ rfl bo (fo + j * 3) o rfl RO.out ?_))
                    obtain ⟨V, hV⟩ : ∃ V, V = wr.heap.size := ⟨_, rfl⟩
                    have BV := Lib.hid (show Bk (wr.alloc (.cells #[.int .i64 o.x, .int .i64 (o.m : Int), .int .i64 (o.w : Int)] 66)) V 66 #[.int .i64 o.x, .int .i64 (o.m : Int), .int .i64 (o.w : Int)] from by rw [hV]; exact Bk.new wr _ _)
                    have M2 := Lib.hid (M1.out.below ((Below.refl wr.heap.size wr).alloc (Nat.le_refl _) (.cells #[.int .i64 o.x, .int .i64 (o.m : Int), .int .i64 (o.w : Int)] 66)))
                    have BKb := Lib.hid (BK.out.alloc (.cells #[.int .i64 o.x, .int .i64 (o.m : Int), .int .i64 (o.w : Int)] 66))
                    rw [← hV]
                    clear hV M1 BK
                    generalize wr.alloc (.cells #[.int .i64 o.x, .int .i64 (o.m : Int), .int .i64 (o.w : Int)] 66) = w2 at *
                    clear RO
                    have T2 := Lib.hid (fm_take (aW1 p) q.hs j (by rw [← NE.out]; exact hlt))
                    have x0 : w2.cell? ⟨K, 0, none⟩ = some (.int .i64 p.1) := BKb.out.cell 0
                    have x1 : w2.cell? ⟨K, 1, none⟩ = some (.int .i64 (p.2 : Int)) := BKb.out.cell 1
                    have v0 : w2.cell? ⟨V, 0, none⟩ = some (.int .i64 o.x) := BV.out.cell 0
                    have v1 : w2.cell? ⟨V, 1, none⟩ = some (.int .i64 (o.m : Int)) := BV.out.cell 1
                    have v2 : w2.cell? ⟨V, 2, none⟩ = some (.int .i64 (o.w : Int)) := BV.out.cell 2
                    rw [← HO.out] at T2
                    have CC := Lib.hid (comp_any (p.2 : Int) (o.m : Int) w2 M2.out.tab)
                    have CE := Lib.hid (show Md.comp (p.2 : Int) (o.m : Int) = cpN p.2 o.m from (cpN_eq PM.out OM.out).symm)
                    rw [CE.out] at CC
                    obtain ⟨c, hc0⟩ : ∃ c, c = cpN p.2 o.m := ⟨_, rfl⟩
                    have HC := Lib.hid hc0
                    rw [← hc0] at CC
                    have LD := Lib.hid (show (A3 ++ (q.hs.take j).flatMap (aW1 p)).length ≤ 903000000 by
                      rw [List.length_append]
                      have a := fm_len (l := q.hs.take j) (f := aW1 p) (c := 1) fun o _ => aW1_len p o
                      have b := List.length_take_le j q.hs
                      have := L3.out
                      omega)
                    clear hc0 CE
                    by_cases e : o.w = 0
                    · have e1 : ((o.w : Int) != 0) = false := by simp [e]
                      have E1 := Lib.hid (show (o.w != 0) = false by simp [e])
                      clear e
                      as_aux_lemma =>
                        go_wp2_with fail
                        refine CC.out.mono ?_
                        rintro e w3 ⟨rfl, hb3⟩
                        have M3 := Lib.hid (M2.out.below hb3)
                        have BKc := Lib.hid (BKb.out.kept hb3)
                        have BVc := Lib.hid (BV.out.kept hb3)
                        clear CC M2 BKb BV x0 x1 v0 v1 v2 hb3 e1
                        cases c with
                        | true =>
                          have TK := Lib.hid (show A3 ++ (q.hs.take j).flatMap (aW1 p) = A3 ++ (q.hs.take (j + 1)).flatMap (aW1 p) by
                            rw [T2.out]
                            unfold aW1
                            rw [← HC.out, E1.out]
                            simp)
                          clear T2
                          go_wp2
                          go_roundw
                          case rel => exact ⟨j + 1, by go_num, by have := HLTo.out; omega, Lib.hid ⟨M3.out.as TK.out, BKc.out⟩⟩
                          case measure => have := HLTo.out; simp [intOf]; omega
                        | false =>
                          have TK := Lib.hid (show A3 ++ (q.hs.take j).flatMap (aW1 p) ++ [(p.1, o.x)] = A3 ++ (q.hs.take (j + 1)).flatMap (aW1 p) by
                            rw [T2.out]
                            unfold aW1
                            rw [← HC.out]
                            simp)
                          have x0 : w3.cell? ⟨K, 0, none⟩ = some (.int .i64 p.1) := BKc.out.cell 0
                          have v0 : w3.cell? ⟨V, 0, none⟩ = some (.int .i64 o.x) := BVc.out.cell 0
                          clear T2
                          have M3p := Lib.hid (M3.out.below ((Below.refl w3.heap.size w3).alloc (Nat.le_refl _) (.cells #[.int .i64 p.1, .int .i64 o.x] 41)))
                          obtain ⟨vb, hvb⟩ : ∃ vb, vb = w3.heap.size := ⟨_, rfl⟩
                          have VB := Lib.hid hvb
                          have NP := Lib.hid (pair_cells w3 p.1 o.x vb hvb)
                          have BKcp := Lib.hid (BKc.out.alloc (.cells #[.int .i64 p.1, .int .i64 o.x] 41))
                          clear hvb M3 BKc
                          go_wp2_with (first | (rw [← VB.out]; refine wpList_append_rk rfl _ _ 36 rfl I _ 16 Tryd.underlying36 HI.out HZ.out HSZ.out HBY.out rfl pC_len (by decide) pC_one _ (A3 ++ (q.hs.take j).flatMap (aW1 p)) rfl M3p.out.row (p.1, o.x) ⟨vb, 0, none⟩ 1 rfl NP.out (by have := LD.out; omega) (by have := LD.out; omega) ?_; intro v8 w8 hr8 hg8; have M8 := Lib.hid (M3p.out.app hg8 hr8); have BKcq := Lib.hid (M3p.out.far hg8 BKcp.out (by decide)); clear hr8 hg8 M3p NP BKcp) | fail)
                          go_roundw
                          case rel => exact ⟨j + 1, by go_num, by have := HLTo.out; omega, Lib.hid ⟨M8.out.as TK.out, BKcq.out⟩⟩
                          case measure => have := HLTo.out; simp [intOf]; omega
                    · have e1 : ((o.w : Int) != 0) = true := by simp [e]
                      have E1 := Lib.hid (show (o.w != 0) = true by simp [e])
                      have TK := Lib.hid (show A3 ++ (q.hs.take j).flatMap (aW1 p) ++ [(p.1, o.x)] = A3 ++ (q.hs.take (j + 1)).flatMap (aW1 p) by
                        rw [T2.out]
                        unfold aW1
                        rw [E1.out]
                        simp)
                      clear T2 e CC
                      as_aux_lemma =>
                        have M2p := Lib.hid (M2.out.below ((Below.refl w2.heap.size w2).alloc (Nat.le_refl _) (.cells #[.int .i64 p.1, .int .i64 o.x] 41)))
                        obtain ⟨vb, hvb⟩ : ∃ vb, vb = w2.heap.size := ⟨_, rfl⟩
                        have VB := Lib.hid hvb
                        have NP := Lib.hid (pair_cells w2 p.1 o.x vb hvb)
                        have BKbp := Lib.hid (BKb.out.alloc (.cells #[.int .i64 p.1, .int .i64 o.x] 41))
                        clear hvb M2 BKb
                        go_wp2_with (first | (rw [← VB.out]; refine wpList_append_rk rfl _ _ 36 rfl I _ 16 Tryd.underlying36 HI.out HZ.out HSZ.out HBY.out rfl pC_len (by decide) pC_one _ (A3 ++ (q.hs.take j).flatMap (aW1 p)) rfl M2p.out.row (p.1, o.x) ⟨vb, 0, none⟩ 1 rfl NP.out (by have := LD.out; omega) (by have := LD.out; omega) ?_; intro v8 w8 hr8 hg8; have M8 := Lib.hid (M2p.out.app hg8 hr8); have BKbq := Lib.hid (M2p.out.far hg8 BKbp.out (by decide)); clear hr8 hg8 M2p NP BKbp) | fail)
                        go_roundw
                        case rel => exact ⟨j + 1, by go_num, by have := HLTo.out; omega, Lib.hid ⟨M8.out.as TK.out, BKbq.out⟩⟩
                        case measure => have := HLTo.out; simp [intOf]; omega
                  · obtain rfl : n = j := by omega
                    obtain ⟨A4, hA4⟩ : ∃ A4, A4 = A3 ++ q.hs.flatMap (aW1 p) := ⟨_, rfl⟩
                    have L4 := Lib.hid (show A4.length ≤ 903000000 by
                      rw [hA4, List.length_append]
                      have a := fm_len (l := q.hs) (f := aW1 p) (c := 1) fun o _ => aW1_len p o
                      rw [← NE.out] at a
                      have := L3.out
                      omega)
                    have M2 := Lib.hid (M1.out.as (A' := A4) (by rw [hA4, NE.out, List.take_length]))
                    rw [← hA4] at AW
                    have y2 : wr.cell? ⟨g, 2, none⟩ = some (.slice (some ⟨bw, fw, none⟩) m wc) := M2.out.qm.bk.cell 2
                    have hic : i ≤ wc := by
                      obtain ⟨a', c', e'⟩ := M2.out.qm.ws.slice
                      rcases M2.out.qm.ws with ⟨e', _⟩ | ⟨_, _, cap', _, e', _, hA'⟩
                      · cases e'
                      · have := hA'.le
                        have : wc = cap' := by have := Value.slice.inj e'; exact this.2.2
                        rw [← ME.out] at *
                        omega
                    clear hlt hA4 M1
                    as_aux_lemma =>
                      go_wp2_with fail
                      go_loopw [1, 105] (fun s1 s105 wr => ∃ j : Nat, s105 = .int .i64 j ∧ j ≤ i ∧ Hid (AM B w F g (.slice ha n hc) ve (.slice (some ⟨bw, fw, none⟩) m wc) q wr s1 (A4 ++ (q.ws.take j).flatMap (aW2 p)) ∧ Bk wr K 68 #[.int .i64 p.1, .int .i64 (p.2 : Int)])) (fun s1 s105 _ => i - (intOf s105).toNat)
                      case atStart => exact ⟨0, rfl, Nat.zero_le _, Lib.hid ⟨M2.out.as (by simp), BK.out⟩⟩
                      case round =>
                        clear M2 BK y2
                        obtain ⟨j, rfl, hji, hJ⟩ := hrel
                        have BK := Lib.hid hJ.out.2
                        have M1 := Lib.hid hJ.out.1
                        clear hJ
                        by_cases hlt : j < i
                        · have HLTo := Lib.hid hlt
                          obtain ⟨o, ho⟩ : ∃ o, o = q.ws[j]'(by rw [← ME.out]; have := HLTw.out; omega) := ⟨_, rfl⟩
                          have RO := Lib.hid (show wr.rangeAt bw (fw + j * 2) (wC o) from by
                            obtain ⟨b2, f2, e2, r2⟩ := (show Rk wr F 68 2 wC (.slice (some ⟨bw, fw, none⟩) m wc) q.ws from M1.out.qm.ws).cells_at (j := j) (by rw [← ME.out]; have := HLTw.out; omega)
                            obtain ⟨rfl, rfl⟩ : bw = b2 ∧ fw = f2 := by simpa using e2
                            rw [ho]; exact r2)
                          have T2 := Lib.hid (fm_take (aW2 p) q.ws j (by rw [← ME.out]; have := HLTw.out; omega))
                          rw [← ho] at T2
                          clear ho
                          go_upto_region 24 with (first | (refine load_wish rfl _ rfl bw (fw + j * 2) o rfl RO.out ?_))
                          obtain ⟨V, hV⟩ : ∃ V, V = wr.heap.size := ⟨_, rfl⟩
                          have BV := Lib.hid (show Bk (wr.alloc (.cells #[.int .i64 o.1, .int .i64 (o.2 : Int)] 68)) V 68 #[.int .i64 o.1, .int .i64 (o.2 : Int)] from by rw [hV]; exact Bk.new wr _ _)
                          have M2 := Lib.hid (M1.out.below ((Below.refl wr.heap.size wr).alloc (Nat.le_refl _) (.cells #[.int .i64 o.1, .int .i64 (o.2 : Int)] 68)))
                          have BKb := Lib.hid (BK.out.alloc (.cells #[.int .i64 o.1, .int .i64 (o.2 : Int)] 68))
                          rw [← hV]
                          clear hV M1 BK
                          generalize wr.alloc (.cells #[.int .i64 o.1, .int .i64 (o.2 : Int)] 68) = w2 at *
                          clear RO
                          have x0 : w2.cell? ⟨K, 0, none⟩ = some (.int .i64 p.1) := BKb.out.cell 0
                          have v0 : w2.cell? ⟨V, 0, none⟩ = some (.int .i64 o.1) := BV.out.cell 0
                          have LD := Lib.hid (show (A4 ++ (q.ws.take j).flatMap (aW2 p)).length ≤ 904000000 by
                            rw [List.length_append]
                            have a := fm_len (l := q.ws.take j) (f := aW2 p) (c := 1) fun o _ => Nat.le_refl _
                            have b := List.length_take_le j q.ws
                            have := L4.out
                            omega)
                          have TK := Lib.hid (show A4 ++ (q.ws.take j).flatMap (aW2 p) ++ [(p.1, o.1)] = A4 ++ (q.ws.take (j + 1)).flatMap (aW2 p) by
                            rw [T2.out]
                            simp [aW2])
                          clear T2
                          have M2p := Lib.hid (M2.out.below ((Below.refl w2.heap.size w2).alloc (Nat.le_refl _) (.cells #[.int .i64 p.1, .int .i64 o.1] 41)))
                          obtain ⟨vb, hvb⟩ : ∃ vb, vb = w2.heap.size := ⟨_, rfl⟩
                          have VB := Lib.hid hvb
                          have NP := Lib.hid (pair_cells w2 p.1 o.1 vb hvb)
                          have BKbp := Lib.hid (BKb.out.alloc (.cells #[.int .i64 p.1, .int .i64 o.1] 41))
                          clear hvb M2 BKb
                          go_wp2_with (first | (rw [← VB.out]; refine wpList_append_rk rfl _ _ 36 rfl I _ 16 Tryd.underlying36 HI.out HZ.out HSZ.out HBY.out rfl pC_len (by decide) pC_one _ (A4 ++ (q.ws.take j).flatMap (aW2 p)) rfl M2p.out.row (p.1, o.1) ⟨vb, 0, none⟩ 1 rfl NP.out (by have := LD.out; omega) (by have := LD.out; omega) ?_; intro v8 w8 hr8 hg8; have M8 := Lib.hid (M2p.out.app hg8 hr8); have BKbq := Lib.hid (M2p.out.far hg8 BKbp.out (by decide)); clear hr8 hg8 M2p NP BKbp) | fail)
                          go_roundw
                          case rel => exact ⟨j + 1, by go_num, by have := HLTo.out; omega, Lib.hid ⟨M8.out.as TK.out, BKbq.out⟩⟩
                          case measure => have := HLTo.out; simp [intOf]; omega
                        · obtain rfl : i = j := by omega
                          have M3 := Lib.hid (M1.out.as AW.out)
                          clear hlt M1
                          go_wp2
                          go_roundw
                          case rel => exact ⟨i + 1, by go_num, by have := HLTw.out; omega, Lib.hid M3.out⟩
                          case measure => have := HLTw.out; simp [intOf]; omega
            · obtain rfl : m = i := by omega
              have M3 := Lib.hid (hI.out.as (A' := A0 ++ q.arcs) (by rw [← FIN.out, ME.out]))
              clear hlt hI
              go_wp2
              go_ret
              exact ⟨_, rfl, M3.out⟩
end Go.Proofs.YtnpnpkaklamboaaDoor
