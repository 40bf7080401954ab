/- A store forgotten. -/
import Derived.Test.YteccaickdjbndaaSpcMake
set_option linter.unusedVariables false
set_option linter.unusedSimpArgs false
namespace Go.Proofs.Yteccaickdjbndaa
open Go.RowKit

/-- The map on which the pages of a store below i are given back. -/
def fgt (pg : Nat → Pg) (s : Int) (m : Pg) : Nat → Pg
  | 0 => m
  | i + 1 => if 2 ≤ i ∧ ownB (fgt pg s m i) i = true ∧ (pg i).s = s then mrk (fgt pg s m i) i false else fgt pg s m i
theorem fgt_ok {m : Pg} {n : Nat} (h : MapOk m n) (pg : Nat → Pg) (s : Int) : ∀ i, MapOk (fgt pg s m i) n
  | 0 => h
  | i + 1 => by
    unfold fgt
    split
    · exact (fgt_ok h pg s i).mrk i false
    · exact fgt_ok h pg s i
theorem fgt_two (pg : Nat → Pg) (s : Int) (m : Pg) : fgt pg s m 2 = m := by
  unfold fgt fgt fgt
  simp
def ForgetPost (w : World) (B g b gs r N M n : Nat) (und pg : Nat → Pg) (s : Int) (e : Ending) (w' : World) : Prop :=
  (¬ thereP (pg 0) s ∧ e = .returned (.int .i64 1) ∧ Below w.heap.size w w') ∨
  (thereP (pg 0) s ∧ e = .returned (.int .i64 0) ∧ SV w' B g b gs r N (M + 2) und (upd (upd pg 1 (fgt pg s (pg 1) n)) 0 (putC (pg 0) (s - 1).toNat ⟨0, ⟨#[]⟩⟩)) ∧ w.grownBy w' (some b))
open Classical in
set_option maxRecDepth 100000 in
set_option maxHeartbeats 4000000 in
theorem forget_good {w : World} {B g b gs r N M n : Nat} {und pg : Nat → Pg} (h : SV w B g b gs r N M und pg) (h2 : 2 ≤ N) (hn : n ≤ N) (hk : (pg 0).k = 1) (hok : (pg 0).ok) (hm : MapOk (pg 1) n) (hM : M + 1 < maxLen) (s : Int) :
    Calls Try.prog 17 #[.pointer (some ⟨g, 0, none⟩), .int .i64 s] w (ForgetPost w B g b gs r N M n und pg s) := by
  have H := Lib.hid h
  have CC := Lib.hid (directory_good h hk)
  have NEG := Lib.hid h.gs_ne
  have HN := Lib.hid hn; have H2N := Lib.hid h2; have HM := Lib.hid hM
  have MO := Lib.hid (fun i => fgt_ok hm pg s i)
  have MC := Lib.hid (fun (w' : World) (hs : SV w' B g b gs r N M und pg) => chart_good hs h2 hm.ch)
  obtain ⟨p, hp⟩ : ∃ p, p = pg 0 := ⟨_, rfl⟩
  obtain ⟨m, hmm⟩ : ∃ m, m = pg 1 := ⟨_, rfl⟩
  have HP := Lib.hid hp
  rw [← hp] at CC
  rw [← hmm] at MO MC
  have PO := Lib.hid (show p.ok by rw [hp]; exact hok)
  have CT := Lib.hid (fun (w' : World) => there_any p s w')
  have NO := Lib.hid (fun (w' : World) (ha : ¬ thereP p s) (hb : Below w.heap.size w w') => show ForgetPost w B g b gs r N M n und pg s (.returned (.int .i64 1)) w' from .inl ⟨by rw [← hp]; exact ha, rfl, hb⟩)
  have YES := Lib.hid (fun (w' : World) (ha : thereP p s) (hs : SV w' B g b gs r N (M + 2) und (upd (upd pg 1 (fgt pg s m n)) 0 (putC p (s - 1).toNat ⟨0, ⟨#[]⟩⟩))) (hg : w.grownBy w' (some b)) => show ForgetPost w B g b gs r N M n und pg s (.returned (.int .i64 0)) w' from .inr ⟨by rw [← hp]; exact ha, rfl, by rw [← hp, ← hmm]; exact hs, hg⟩)
  clear h hp hmm hk hok hm hM h2 hn
  go_enter Try.func17, Try.ntmps17
  go_wp2_with fail
  refine CC.out.mono ?_
  rintro e w1 ⟨rfl, hb⟩
  have hbb := hb.alloc hb.size (.cells p.cs 44)
  have H2 := Lib.hid (H.out.kept hbb)
  have K2 := Lib.hid (Bk.new w1 44 p.cs)
  have B2 := Lib.hid hbb
  obtain ⟨G4, hG4⟩ : ∃ G4, G4 = w1.heap.size := ⟨_, rfl⟩
  rw [← hG4] at K2
  have GL := Lib.hid (show w.heap.size ≤ G4 by rw [hG4]; exact hb.size)
  clear hb hbb CC
  dsimp only
  go_upto_region 4 with (refine store_page_new rfl _ _ rfl p rfl rfl ?_; rw [← hG4]; clear hG4; generalize w1.alloc (.cells p.cs 44) = w2 at *)
  go_wp2_with (refine load_page rfl _ rfl G4 p rfl K2.out ?_)
  refine (CT.out _).mono ?_
  rintro e w3 ⟨rfl, hb⟩
  have H3 := Lib.hid (H2.out.kept hb)
  have K3 := Lib.hid (K2.out.kept hb)
  have B3 := Lib.hid (below_then B2.out hb B2.out.size)
  clear hb CT H2 K2 B2
  by_cases ht : thereP p s
  rotate_left
  · rw [decide_eq_false ht]
    have Y := Lib.hid (NO.out w3 ht B3.out)
    go_wp2
    go_ret
    exact Y.out
  rw [decide_eq_true ht]
  have J := Lib.hid ht
  clear ht NO
  as_aux_lemma =>
    go_wp2_with fail
    refine (MC.out w3 H3.out).mono ?_
    rintro e w4 ⟨rfl, hb⟩
    have hbb := hb.alloc hb.size (.cells m.cs 44)
    have H5 := Lib.hid (H3.out.kept hbb)
    have K5 := Lib.hid (K3.out.kept hbb)
    have B5 := Lib.hid (below_then B3.out hbb B3.out.size)
    have M5 := Lib.hid (Bk.new w4 44 m.cs)
    obtain ⟨G7, hG7⟩ : ∃ G7, G7 = w4.heap.size := ⟨_, rfl⟩
    rw [← hG7] at M5
    have GM := Lib.hid (show G4 < G7 ∧ w.heap.size ≤ G7 by rw [hG7]; exact ⟨(K3.out.kept hb).lt, Nat.le_trans B3.out.size hb.size⟩)
    clear hb hbb MC H3 K3 B3
    dsimp only
    go_upto_region 9 with (refine store_page_new rfl _ _ rfl m rfl rfl ?_; rw [← hG7]; clear hG7; generalize w4.alloc (.cells m.cs 44) = w5 at *)
    as_aux_lemma =>
      go_wp2_with fail
      go_loopw [8] (fun i wr => ∃ j : Nat, 2 ≤ j ∧ j ≤ n ∧ i = .int .i64 j ∧ SV wr B g b gs r N M und pg ∧ Bk wr G4 44 p.cs ∧ Bk wr G7 44 (fgt pg s m j).cs ∧ Below w.heap.size w wr) (fun i _ => n - (intOf i).toNat)
      case atStart => exact ⟨2, Nat.le_refl _, by have := (MO.out 0).lo; omega, rfl, H5.out, K5.out, by rw [fgt_two]; exact M5.out, B5.out⟩
      case round =>
        obtain ⟨j, hj2, hj, rfl, hs, hk, hq, hb⟩ := hrel
        have H6 := Lib.hid hs; have K6 := Lib.hid hk; have M6 := Lib.hid hq; have B6 := Lib.hid hb
        have J2 := Lib.hid hj2; have JN := Lib.hid hj
        clear hs hk hq hb H5 K5 M5 B5
        obtain ⟨q, hq⟩ : ∃ q, q = fgt pg s m j := ⟨_, rfl⟩
        have MQ := Lib.hid (show MapOk q n by rw [hq]; exact MO.out j)
        rw [← hq] at M6
        have HQ := Lib.hid hq
        have CN := Lib.hid (fun (w' : World) => count_any q w' (by have := MQ.out.num; have := MQ.out.lo; have := MQ.out.hi; omega))
        rw [show q.n + 1 = (n : Int) by have := MQ.out.num; omega] at CN
        clear hq
        go_wp2_with (refine load_page rfl _ rfl G7 q rfl M6.out ?_)
        refine (CN.out _).mono ?_
        rintro e w7 ⟨rfl, hb⟩
        have H7 := Lib.hid (H6.out.kept hb); have K7 := Lib.hid (K6.out.kept hb); have M7 := Lib.hid (M6.out.kept hb); have B7 := Lib.hid (below_then B6.out hb B6.out.size)
        clear hb CN H6 K6 M6 B6
        by_cases hlt : j < n
        · have HLT := Lib.hid hlt
          have hjb : j < 1024 := by have := MQ.out.hi; omega
          have hjn : (j : Int) < (n : Int) := by omega
          have CO := Lib.hid (fun (w' : World) => owned_any q j w' (by omega) (MQ.out.ch.2 _ (by omega)))
          have CM := Lib.hid (fun (w' : World) => mark_any q j false w' (by omega) (MQ.out.ch.2 _ (by omega)))
          have CG := Lib.hid (fun (w' : World) (hs : SV w' B g b gs r N M und pg) => sv_get hs j (by have := HN.out; omega))
          as_aux_lemma =>
            go_wp2_with (refine load_page rfl _ rfl G7 q rfl M7.out ?_)
            refine (CO.out _).mono ?_
            rintro e w8 ⟨rfl, hb⟩
            have H8 := Lib.hid (H7.out.kept hb); have K8 := Lib.hid (K7.out.kept hb); have M8 := Lib.hid (M7.out.kept hb); have B8 := Lib.hid (below_then B7.out hb B7.out.size)
            clear hb CO H7 K7 M7 B7
            have hjz : (j : Int) + 1 < 9223372036854775807 := by omega
            by_cases ho : ownB q j = true
            · have OW := Lib.hid ho
              rw [ho]
              clear ho
              go_wp2_with fail
              refine (CG.out _ H8.out).mono ?_
              rintro e w9 ⟨rfl, hb⟩
              obtain ⟨pj, hpj⟩ : ∃ pj, pj = pg j := ⟨_, rfl⟩
              rw [← hpj]
              have HPJ := Lib.hid hpj
              clear hpj
              have hbb := hb.alloc hb.size (.cells pj.cs 44)
              have H9 := Lib.hid (H8.out.kept hbb); have K9 := Lib.hid (K8.out.kept hbb); have M9 := Lib.hid (M8.out.kept hbb); have B9 := Lib.hid (below_then B8.out hbb B8.out.size)
              have P9 := Lib.hid (Bk.new w9 44 pj.cs)
              obtain ⟨G9, hG9⟩ : ∃ G9, G9 = w9.heap.size := ⟨_, rfl⟩
              rw [← hG9] at P9
              clear hb hbb CG H8 K8 M8 B8
              dsimp only
              go_upto_region 14 with (refine store_page_new rfl _ _ rfl pj rfl rfl ?_; rw [← hG9]; clear hG9; generalize w9.alloc (.cells pj.cs 44) = w10 at *)
              have x2 : w10.cell? ⟨G9, 2, none⟩ = some (.int .i64 pj.s) := by rw [P9.out.cell]; rfl
              by_cases he : pj.s = s
              · have FQ := Lib.hid (show fgt pg s m (j + 1) = mrk q j false by
                  unfold fgt
                  rw [← HQ.out, if_pos ⟨J2.out, OW.out, by rw [← HPJ.out]; exact he⟩])
                have heb : (pj.s == s) = true := by simp [he]
                go_wp2_with (refine load_page rfl _ rfl G7 q rfl M9.out ?_)
                refine (CM.out _).mono ?_
                rintro e w11 ⟨rfl, hb⟩
                have H11 := Lib.hid (H9.out.kept hb); have K11 := Lib.hid (K9.out.kept hb); have M11 := Lib.hid (M9.out.kept hb); have B11 := Lib.hid (below_then B9.out hb B9.out.size)
                obtain ⟨mq, hmq⟩ : ∃ mq, mq = mrk q j false := ⟨_, rfl⟩
                rw [← hmq] at FQ ⊢
                clear hb CM H9 K9 M9 B9 P9 hmq x2
                have hg : w11.grownBy (w11.setRow G7 mq.cs) (some G7) := ⟨rfl, rfl, rfl, by simp [World.setRow], fun q _ hq => setRow_other w11 G7 q _ (fun e => hq (by rw [e]))⟩
                have H12 := Lib.hid (H11.out.grown hg (fun k hk => by cases hk; have := NEG.out; have := GM.out; omega))
                have K12 := Lib.hid (K11.out.grown hg (fun e => by injection e with e; have := GM.out; omega))
                have M12 := Lib.hid (show Bk (w11.setRow G7 mq.cs) G7 44 (fgt pg s m (j + 1)).cs by rw [FQ.out]; exact row_bk M11.out)
                have B12 := Lib.hid (show Below w.heap.size w (w11.setRow G7 mq.cs) from below_row B11.out GM.out.2)
                clear hg
                go_wp2_with (refine store_page rfl _ _ rfl G7 mq q rfl rfl M11.out ?_)
                go_roundw
                case rel => exact ⟨j + 1, by have := J2.out; omega, by have := HLT.out; omega, by go_num, H12.out, K12.out, M12.out, B12.out⟩
                case measure => have := HLT.out; simp [intOf]; omega
              · have FQ := Lib.hid (show fgt pg s m (j + 1) = q by
                  unfold fgt
                  rw [← HQ.out, if_neg (fun h => he (by rw [HPJ.out]; exact h.2.2))])
                have heb : (pj.s == s) = false := by simp [he]
                go_wp2_with fail
                go_roundw
                case rel => exact ⟨j + 1, by have := J2.out; omega, by have := HLT.out; omega, by go_num, H9.out, K9.out, by rw [FQ.out]; exact M9.out, B9.out⟩
                case measure => have := HLT.out; simp [intOf]; omega
            · have FQ := Lib.hid (show fgt pg s m (j + 1) = q by
                unfold fgt
                rw [← HQ.out, if_neg (fun h => ho h.2.1)])
              have ho : ownB q j = false := by simpa using ho
              rw [ho]
              go_wp2_with fail
              go_roundw
              case rel => exact ⟨j + 1, by have := J2.out; omega, by have := HLT.out; omega, by go_num, H8.out, K8.out, by rw [FQ.out]; exact M8.out, B8.out⟩
              case measure => have := HLT.out; simp [intOf]; omega
        · have hjn : j = n := by have := JN.out; omega
          subst hjn
          clear hlt
          have CS1 := Lib.hid (show Calls Try.prog 16 #[.pointer (some ⟨g, 0, none⟩), .int .i64 1, .agg q.cs] w7 _ from sv_set H7.out 1 (by have := H2N.out; omega) q MQ.out.ok (by have := HM.out; omega))
          as_aux_lemma =>
            go_wp2_with (refine load_page rfl _ rfl G7 q rfl M7.out ?_)
            refine CS1.out.mono ?_
            rintro e w8 ⟨rfl, hs, hg⟩
            have H8 := Lib.hid hs
            have K8 := Lib.hid (K7.out.grown hg (fun e => by injection e with e; exact H7.out.map_ne K7.out e.symm))
            have G8 := Lib.hid (only_trans (only_below B7.out (some b)) hg)
            clear hs hg CS1 H7 K7 M7 B7
            obtain ⟨jj, hjs, hjj6⟩ : ∃ jj : Nat, s - 1 = (jj : Int) ∧ jj < 6 := ⟨(s - 1).toNat, by have := J.out.1; omega, by have := J.out.1; have := J.out.2.1; omega⟩
            have HJJ := Lib.hid hjj6
            have SJ := Lib.hid (show (s - 1).toNat = jj by rw [hjs, Int.toNat_natCast])
            have hjz : (jj : Int) < 6 := by omega
            have HA := setCells_only w8 G4 (4 + jj * 2) [.int .i64 0, .string ⟨#[]⟩]
            have H9 := Lib.hid (H8.out.grown HA (fun k hk => by cases hk; have := NEG.out; have := GL.out; omega))
            have K9 := Lib.hid (putRow p jj HJJ.out 0 ⟨#[]⟩ K8.out)
            have G9 := Lib.hid (only_new G8.out HA GL.out)
            obtain ⟨dp, hdp⟩ : ∃ dp, dp = putC p jj ⟨0, ⟨#[]⟩⟩ := ⟨_, rfl⟩
            have DO := Lib.hid (show dp.ok by
              rw [hdp]
              refine ⟨PO.out.1, fun i hi => ?_⟩
              show (if i = jj then (⟨0, ⟨#[]⟩⟩ : Ce) else p.c i).ok
              by_cases e : i = jj
              · rw [if_pos e]; exact .inl ⟨rfl, rfl⟩
              · rw [if_neg e]; exact PO.out.2 i hi)
            rw [← hdp] at K9
            have HDP := Lib.hid hdp
            clear hdp HA hjj6
            as_aux_lemma =>
              go_upto_region 22 with (refine store_cell_at rfl _ _ rfl G4 p jj HJJ.out 0 ⟨#[]⟩ rfl rfl K8.out ?_)
              clear H8 K8 G8
              generalize w8.setCells G4 (4 + jj * 2) [.int .i64 0, .string ⟨#[]⟩] = w9 at *
              have CS2 := Lib.hid (show Calls Try.prog 16 #[.pointer (some ⟨g, 0, none⟩), .int .i64 0, .agg dp.cs] w9 _ from sv_set H9.out 0 (by have := H2N.out; omega) dp DO.out (by have := HM.out; omega))
              go_wp2_with (refine load_page rfl _ rfl G4 dp rfl K9.out ?_)
              refine CS2.out.mono ?_
              rintro e w10 ⟨rfl, hs, hg⟩
              have Y1 := Lib.hid (YES.out w10 J.out (by rw [SJ.out, ← HQ.out, ← HDP.out]; exact hs) (only_trans G9.out hg))
              clear hs hg CS2 H9 K9 G9
              go_wp2
              go_ret
              exact Y1.out
end Go.Proofs.Yteccaickdjbndaa
