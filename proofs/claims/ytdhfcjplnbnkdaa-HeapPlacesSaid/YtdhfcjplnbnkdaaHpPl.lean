/- HeapPlaces. -/
import Derived.Test.YtdhfcjplnbnkdaaHpNew
import Derived.Test.YtdhfcjplnbnkdaaSq
set_option linter.unusedVariables false
set_option linter.unusedSimpArgs false
namespace Go.Proofs.Ytdhfcjplnbnkdaa
open Go.RowKit Go.Maps

theorem div8s {p s : Nat} (hs : s < 6) (hp : p < 40) : ((p : Int) * 8 + (s : Int)).tdiv 8 = (p : Int) ∧ wrap64 (p : Int) = (p : Int) := div8 hs (by omega)
theorem mod8 (p : Nat) {s : Nat} (hs : s < 6) : ((p : Int) * 8 + (s : Int)).tmod 8 = (s : Int) := by
  rw [Int.tmod_eq_emod_of_nonneg (by omega)]; omega
/-- Every place that has a record is on the list. -/
def OnL (L : Nat → Nat → Ce) (rs : List Int) : Prop := ∀ p s : Nat, s < 6 → (L p s).st = 1 → ((p : Int) * 8 + (s : Int)) ∈ rs
theorem OnL.none : OnL L0 [] := fun p s _ h => by cases h
theorem OnL.put {L : Nat → Nat → Ce} {rs : List Int} (h : OnL L rs) (p s : Nat) (c : Ce) : OnL (putL L p s c) (((p : Int) * 8 + (s : Int)) :: rs) := fun q t ht hst => by
  by_cases e : q = p ∧ t = s
  · rw [e.1, e.2]; exact List.mem_cons_self
  · rw [putL_ne _ _ e] at hst
    exact List.mem_cons_of_mem _ (h q t ht hst)
def idsOf (ch : List Nat) : List Int := ch.flatMap fun p : Nat => (List.range 6).map fun s : Nat => (p : Int) * 8 + (s : Int)
theorem idsOf_len : ∀ ch : List Nat, (idsOf ch).length = 6 * ch.length
  | [] => rfl
  | p :: ch => by
    have := idsOf_len ch
    unfold idsOf at *
    rw [List.flatMap_cons, List.length_append, this, List.length_map, List.length_range, List.length_cons]; omega
theorem idsOf_mem {ch : List Nat} {x : Int} : x ∈ idsOf ch ↔ ∃ p s : Nat, p ∈ ch ∧ s < 6 ∧ x = (p : Int) * 8 + (s : Int) := by
  unfold idsOf
  rw [List.mem_flatMap]
  constructor
  · rintro ⟨p, hp, hx⟩
    obtain ⟨s, hs, rfl⟩ := List.mem_map.1 hx
    exact ⟨p, s, hp, List.mem_range.1 hs, rfl⟩
  · rintro ⟨p, s, hp, hs, rfl⟩
    exact ⟨p, hp, List.mem_map.2 ⟨s, List.mem_range.2 hs, rfl⟩⟩
theorem idsOf_nodup : ∀ ch : List Nat, ch.Nodup → (idsOf ch).Nodup
  | [], _ => List.nodup_nil
  | p :: ch, h => by
    rw [List.nodup_cons] at h
    have ih := idsOf_nodup ch h.2
    show (((List.range 6).map fun s : Nat => (p : Int) * 8 + (s : Int)) ++ idsOf ch).Nodup
    rw [List.nodup_append]
    refine ⟨?_, ih, ?_⟩
    · rw [List.nodup_iff_pairwise_ne, List.pairwise_map]
      exact (List.nodup_iff_pairwise_ne.1 List.nodup_range).imp fun hne e => hne (by omega)
    · intro a ha b hb e
      obtain ⟨s, hs, rfl⟩ := List.mem_map.1 ha
      obtain ⟨q, t, hq, ht, rfl⟩ := idsOf_mem.1 hb
      have h1 := List.mem_range.1 hs
      have : p = q := by omega
      subst this
      exact h.1 hq
theorem room_left {pg : Nat → Pg} {n : Nat} {ch : List Nat} {L : Nat → Nat → Ce} {rs : List Int} (h : Hc pg n ch L) (ho : OnL L rs) (ha : AllL ch L) : 6 * ch.length ≤ rs.length := by
  rw [← idsOf_len]
  refine nodup_len_le _ _ (idsOf_nodup ch h.nd) fun x hx => ?_
  obtain ⟨p, s, hp, hs, rfl⟩ := idsOf_mem.1 hx
  exact ho p s hs (ha p hp s hs)

set_option maxRecDepth 100000 in
set_option maxHeartbeats 8000000 in
theorem walk_HeapPlaces (v : Value) (q : Slq) (w : World) (hq : IsTx w v q) :
    Calls Try.prog 6 #[v] w fun e w' => e = .returned (.bool true) ∧ Below w.heap.size w w' := by
  obtain ⟨q0, s0, hs0⟩ := hq
  have SQ := Lib.hid (Sq.of (f := fun i => .string (s0 i)) q0 (fun i hi => (hs0 i hi).1))
  have SB := Lib.hid (fun i (hi : i < q.len) => (hs0 i hi).2)
  obtain ⟨a, c, rfl, -⟩ := SQ.out
  obtain ⟨len, hlen⟩ : ∃ len, len = q.len := ⟨_, rfl⟩
  have hmx := q0.max; have hle := q0.le
  rw [← hlen] at SQ SB ⊢
  have LM := Lib.hid (show len ≤ 9223372036854775807 by simp only [maxLen] at hmx; omega)
  clear q0 hs0 hmx hle hlen
  have CA := Lib.hid (awake15_any w)
  go_enter Try.func6, Try.ntmps6
  go_wp2_with fail
  refine CA.out.mono ?_
  rintro e w1 ⟨rfl, hb⟩
  have B1 := Lib.hid hb
  clear hb CA
  have CM := memory_good 40 w1 (by omega) (by omega)
  rw [show ((40 : Nat) : Int) = 40 from rfl] at CM
  have CM := Lib.hid CM
  go_wp2_with fail
  refine CM.out.mono ?_
  rintro e w2 ⟨gs, r, rfl, hS, hb⟩
  have S2 := Lib.hid (show Sh w2 w.heap.size gs r (List.replicate 40 Pg.zero) from ⟨hS.box, hS.row, hS.one, hS.most, Nat.le_trans B1.out.size hS.bg, Nat.le_trans B1.out.size hS.br⟩)
  have B2 := Lib.hid (below_then B1.out hb B1.out.size)
  clear hS hb CM B1
  as_aux_lemma =>
    go_wp2_with fail
    refine (ss_new S2.out B2.out.size).mono ?_
    rintro e w3 ⟨g, b, rfl, hs, hb, -, -⟩
    have V3 := Lib.hid (sv_zero hs)
    have B3 := Lib.hid (below_then B2.out hb B2.out.size)
    clear hs hb S2 B2
    as_aux_lemma =>
      by_cases c100 : (100 : Int) < (len : Int)
      · clear V3
        go_wp2
        go_ret
        exact ⟨rfl, B3.out⟩
      have c100n : ¬ 100 < len := by omega
      have LL := Lib.hid (show len ≤ 100 by omega)
      have CF := Lib.hid (format_good V3.out (by omega) 40 (by omega) (by omega) (by decide))
      rw [show ((40 : Nat) : Int) = 40 from rfl] at CF
      go_wp2_with fail
      refine CF.out.mono ?_
      rintro e w4 ⟨rfl, hs, hg⟩
      have V4 := Lib.hid (show SV w4 w.heap.size g b gs r 40 2 pz (pv ((40 : Nat) : Int)) from hs)
      have B4 := Lib.hid (bl_grow B3.out hg (fun k hk => by cases hk; exact V3.out.b_ge) B3.out.size)
      clear hs hg CF V3 B3
      as_aux_lemma =>
        have CK := Lib.hid (make_heap V4.out (n := 40) (by omega) (by omega) (by omega) (by decide))
        go_wp2_with fail
        refine CK.out.mono ?_
        rintro e w5 ⟨rfl, pg5, hs, hc, hg⟩
        have V5 := Lib.hid hs; have H5 := Lib.hid hc
        have B5 := Lib.hid (bl_grow B4.out hg (fun k hk => by cases hk; exact V4.out.b_ge) B4.out.size)
        clear hs hc hg CK V4 B4 c100 c100n
        as_aux_lemma =>
          go_wp2_with fail
          go_loopw [34] (fun i wr => ∃ (k : Nat) (pg : Nat → Pg) (ch : List Nat) (L : Nat → Nat → Ce) (M : Nat) (rs : List Int), k ≤ len ∧ i = .int .i64 k ∧ SV wr w.heap.size g b gs r 40 M pz pg ∧ M ≤ 5 + 16 * k ∧ Hc pg 40 ch L ∧ OnL L rs ∧ rs.length = k ∧ Below w.heap.size w wr) (fun i _ => len - (intOf i).toNat)
          case atStart => exact ⟨0, pg5, [2], L0, 5, [], Nat.zero_le _, rfl, V5.out, by omega, H5.out, OnL.none, rfl, B5.out⟩
          case round =>
            clear V5 H5 B5
            obtain ⟨k, pg, ch, L, M, rs, hk, rfl, hs, hM, hc, ho, hr, hb⟩ := hrel
            have V := Lib.hid hs; have HM := Lib.hid hM; have HC := Lib.hid hc; have HO := Lib.hid ho; have HR := Lib.hid hr; have BW := Lib.hid hb
            clear hs hM hc ho hr hb
            by_cases hlt : k < len
            · have HLT := Lib.hid hlt
              have hkb : k < 9223372036854775807 := by have := LM.out; omega
              obtain ⟨a', c', e1, hat⟩ := SQ.out.kept BW.out (Nat.le_refl _)
              obtain ⟨b1, off, e2, hb1, hra⟩ := hat (by omega)
              obtain ⟨rfl, rfl⟩ : a = some ⟨b1, off, none⟩ ∧ c = c' := by rw [e2] at e1; simpa using e1
              have r0 := hra k hlt
              obtain ⟨val, hval⟩ : ∃ val, val = s0 k := ⟨_, rfl⟩
              change wr.cell? ⟨b1, off + k, none⟩ = some (.string (s0 k)) at r0
              rw [← hval] at r0
              have CI := Lib.hid (insert_any V.out (n := 40) (by omega) HC.out (by have := HM.out; have := LL.out; simp only [maxLen]; omega) val (.slice none 0 0) 0 (fun _ => 0) (by omega) (no_keep _ _ _))
              clear e1 hat e2 hb1 hra hval
              as_aux_lemma =>
                go_wp2_with fail
                refine CI.out.mono ?_
                rintro e w6 (⟨hl, rfl, hb⟩ | ⟨-, -, -, hfull, -⟩ | ⟨p, s, hv32, hs6, hpn, hst, -, rfl, -, M6, pg6, ch6, hm6, hM6, hsv, hc, hg⟩)
                · have B6 := Lib.hid ((below_then BW.out hb BW.out.size).alloc (Nat.le_trans BW.out.size hb.size) (.cells ud0.cs 45))
                  have hl2 : (32 : Int) < (val.size : Int) := by omega
                  clear hb CI V r0 HC HO
                  go_upto_region 12 with (refine store_ud_new rfl _ _ rfl ud0 rfl rfl ?_; generalize w6.alloc (.cells ud0.cs 45) = w7 at *)
                  go_wp2
                  go_ret
                  exact ⟨rfl, B6.out⟩
                · obtain ⟨ha, hn⟩ := hfull rfl
                  have := room_left HC.out HO.out ha
                  have := HR.out; have := LL.out
                  omega
                · have FR := Lib.hid (show s < 6 ∧ p < 40 ∧ p ∈ ch6 from ⟨hs6, hpn, hm6⟩)
                  have ON := Lib.hid (HO.out.put p s ⟨1, val⟩)
                  have HC6 := Lib.hid hc
                  have ML := Lib.hid (show M6 ≤ 5 + 16 * (k + 1) by have := HM.out; omega)
                  obtain ⟨u, hu⟩ : ∃ u, u = udC p s (L p s) := ⟨_, rfl⟩
                  have HU := Lib.hid hu
                  rw [← hu]
                  have V6 := Lib.hid (hsv.alloc (.cells u.cs 45))
                  have B6 := Lib.hid ((bl_grow BW.out hg (fun k hk => by cases hk; exact V.out.b_ge) BW.out.size).alloc (Nat.le_trans BW.out.size hg.size) (.cells u.cs 45))
                  have KU := Lib.hid (Bk.new w6 45 u.cs)
                  obtain ⟨U, hU⟩ : ∃ U, U = w6.heap.size := ⟨_, rfl⟩
                  rw [← hU] at KU
                  have CG := Lib.hid (fun (w' : World) (h : SV w' w.heap.size g b gs r 40 M6 pz pg6) => sv_get h p (by have := FR.out; omega))
                  have PC := Lib.hid (show (pg6 p).s = 1 ∧ (pg6 p).c s = ⟨1, val⟩ from by
                    obtain ⟨i, hi, e⟩ := mem_getD hm6
                    have h1 := hc.page i hi
                    rw [e] at h1
                    exact ⟨h1.2.2.2.1, by rw [hc.cell hm6 hs6, putL_at]⟩)
                  have hd := (div8s (p := p) hs6 hpn).1
                  have wp : wrap64 (p : Int) = (p : Int) := (div8s (p := p) hs6 hpn).2
                  have hmod : ((p : Int) * 8 + (s : Int)).tmod 8 = (s : Int) := mod8 p hs6
                  clear hsv hg hc hu CI V BW r0 HC HO hst hm6 hM6 hv32 HM
                  as_aux_lemma =>
                    go_upto_region 12 with (refine store_ud_new rfl _ _ rfl u rfl rfl ?_; rw [← hU]; clear hU; generalize w6.alloc (.cells u.cs 45) = w7 at *)
                    have CG1 := Lib.hid (CG.out w7 V6.out)
                    go_wp2_with fail
                    refine CG1.out.mono ?_
                    rintro e w8 ⟨rfl, hb⟩
                    obtain ⟨pp, hpp⟩ : ∃ pp, pp = pg6 p := ⟨_, rfl⟩
                    rw [← hpp] at PC ⊢
                    have V8 := Lib.hid ((V6.out.kept hb).alloc (.cells pp.cs 40))
                    have B8 := Lib.hid ((below_then B6.out hb B6.out.size).alloc (Nat.le_trans B6.out.size hb.size) (.cells pp.cs 40))
                    have KU8 := Lib.hid ((KU.out.kept hb).alloc (.cells pp.cs 40))
                    have KG := Lib.hid (Bk.new w8 40 pp.cs)
                    obtain ⟨G, hG⟩ : ∃ G, G = w8.heap.size := ⟨_, rfl⟩
                    rw [← hG] at KG
                    clear hb CG CG1 V6 B6 KU hpp
                    as_aux_lemma =>
                      go_upto_region 15 with (refine store_page_new rfl _ _ rfl pp rfl rfl ?_; rw [← hG]; clear hG; generalize w8.alloc (.cells pp.cs 40) = w9 at *)
                      have s6 : (s : Int) < 6 := by have := FR.out.1; omega
                      have s6' : ¬ (6 : Int) ≤ (s : Int) := by omega
                      have x0 : w9.cell? ⟨G, 4 + s * 2, none⟩ = some (.int .i64 1) := by
                        have := cell_range KG.out s FR.out.1 0 (.int .i64 1) (by rw [PC.out.2]; rfl)
                        exact this
                      have x1 : w9.cell? ⟨G, 4 + s * 2 + 1, none⟩ = some (.string val) := by
                        have := cell_range KG.out s FR.out.1 1 (.string val) (by rw [PC.out.2]; rfl)
                        exact this
                      have x2 : w9.cell? ⟨G, 2, none⟩ = some (.int .i64 1) := by rw [KG.out.cell]; show some (Value.int .i64 pp.s) = _; rw [PC.out.1]
                      rw [HU.out] at KU8
                      have y2 : w9.cell? ⟨U, 2, none⟩ = some (.int .i64 p) := KU8.out.cell 2
                      have y3 : w9.cell? ⟨U, 3, none⟩ = some (.int .i64 s) := KU8.out.cell 3
                      have CID := Lib.hid (fun w' => id_any p s (by have := FR.out; omega) (by have := FR.out; omega) w')
                      as_aux_lemma =>
                        go_wp2_with fail
                        refine (CID.out _).mono ?_
                        rintro e wx ⟨rfl, rfl⟩
                        clear CID KG KU8
                        go_wp2
                        go_roundw
                        case rel => exact ⟨k + 1, pg6, ch6, _, M6, _ :: rs, by have := HLT.out; omega, by go_num, V8.out, ML.out, HC6.out, ON.out, by rw [List.length_cons, HR.out], B8.out⟩
                        case measure => have := HLT.out; simp [intOf]; omega
            · obtain rfl : k = len := by omega
              clear hlt hk V HC HO
              go_wp2
              go_ret
              exact ⟨rfl, BW.out⟩
end Go.Proofs.Ytdhfcjplnbnkdaa
