/- LocksFair. -/
import Derived.Test.YtnpnpkaklamboaaDoorLkTw
set_option linter.unusedVariables false
set_option linter.unusedSimpArgs false
namespace Go.Proofs.YtnpnpkaklamboaaDoor
open Go.RowKit Go.Shelf

theorem tab_LocksFair (W : World) (h : W.cell? ⟨0, 0, none⟩ = some (.int .i64 0) ∧ W.cell? ⟨0, 1, none⟩ = some (.int .i64 1) ∧ W.cell? ⟨0, 2, none⟩ = some (.int .i64 3) ∧
    W.cell? ⟨0, 3, none⟩ = some (.int .i64 5) ∧ W.cell? ⟨0, 4, none⟩ = some (.int .i64 7) ∧ W.cell? ⟨0, 5, none⟩ = some (.int .i64 13) ∧ W.cell? ⟨0, 6, none⟩ = some (.int .i64 31)) : Tab W := tab_of W h
theorem arc_snd {q : Que} {p : Int × Int} (h : p ∈ q.arcs) : q.has p.2 := by
  unfold Que.arcs at h
  rcases List.mem_append.1 h with h | h
  · obtain ⟨g, hg, h⟩ := List.mem_flatMap.1 h
    unfold aH at h
    split at h
    · cases h
    · obtain ⟨k, hk, h⟩ := List.mem_flatMap.1 h
      unfold aH1 at h
      split at h
      · rw [List.mem_singleton] at h
        exact .inl ⟨k, hk, by rw [h]⟩
      · cases h
  · obtain ⟨i, hi, h⟩ := List.mem_flatMap.1 h
    unfold aW at h
    split at h
    · cases h
    · rename_i r hr
      rcases List.mem_append.1 h with h | h
      · obtain ⟨k, hk, h⟩ := List.mem_flatMap.1 h
        unfold aW1 at h
        split at h
        · rw [List.mem_singleton] at h
          exact .inl ⟨k, hk, by rw [h]⟩
        · cases h
      · obtain ⟨k, hk, h⟩ := List.mem_flatMap.1 h
        unfold aW2 at h
        rw [List.mem_singleton] at h
        exact .inr ⟨k, List.mem_of_mem_take hk, by rw [h]⟩
theorem has_in {q : Que} (b : q.bd) {x : Int} (h : q.has x) : I64 x := by
  rcases h with ⟨k, hk, rfl⟩ | ⟨p, hp, rfl⟩
  · exact (b.hs k hk).1
  · exact (b.ws p hp).1
theorem arcs_in {T : Tbl} (b : T.bd) {D : List (Int × Int)} (hD : T.arcsOf D) {p : Int × Int} (h : p ∈ D) : I64 p.2 := by
  obtain ⟨n, q, hq, ha⟩ := (hD.2 p).1 h
  exact has_in (b n q hq) (arc_snd ha)
/-- A table and its lines. -/
structure TH (w0 w : World) (t k : Nat) (T : Tbl) (v6 : Value) (A : List H5) : Prop where
  l : L1 w0 (fun _ => False) w t k T
  a : Rk w (fun _ => True) 39 5 aC v6 A
theorem TH.kept {w0 w w' : World} {t k : Nat} {T : Tbl} {v6 : Value} {A : List H5} (h : TH w0 w t k T v6 A) (hb : Below w.heap.size w w') : TH w0 w' t k T v6 A :=
  ⟨h.l.kept hb, h.a.kept hb⟩
theorem in_asked {T : Tbl} {X : List Int} (h : T.in_ X) (x : Int) (n : Nm) (m : Nat) : (T.asked cpN jnN x n m).in_ (x :: X) := fun k y hy => by
  rw [Tbl.asked_q] at hy
  by_cases e : k = n
  · rw [if_pos e] at hy
    rcases ask_has hy with h1 | h1
    · exact List.mem_cons_of_mem _ (h n y h1)
    · rw [h1]; exact List.mem_cons_self
  · rw [if_neg e] at hy
    exact List.mem_cons_of_mem _ (h k y hy)
theorem in_cons {T : Tbl} {X : List Int} (h : T.in_ X) (x : Int) : T.in_ (x :: X) := fun k y hy => List.mem_cons_of_mem _ (h k y hy)
theorem in_rel {T : Tbl} (ok : T.ok cpN) {X : List Int} (h : T.in_ X) (x : Int) : (T.release cpN x).in_ X := fun k y hy => (List.mem_filter.1 (h.release ok x k y hy)).1
theorem l1_anyX {w0 w : World} {S : Nat → Prop} {t k : Nat} {T : Tbl} {X : List Int} (h : L1 w0 S w t k T) (hX : T.in_ X) (hk : k ≤ 300) (x : Int) (hx : I64 x) (n : Nm) (hn : n.wf) (m : Int) :
    Calls Tryd.prog 12 #[ptr t, .int .i64 x, .agg #[.int .i64 n.s, .string n.t], .int .i64 m] w fun e w' => ∃ b c T', e = .returned (.tuple #[.bool b, .int .i64 c]) ∧ L1 w0 S w' t (k + 1) T' ∧ T'.in_ (x :: X) := by
  by_cases hm : m ≤ 0 ∨ 6 < m
  · exact (l1_arg h x m n hm).mono fun e w' ⟨a, b, c⟩ => ⟨_, _, _, a, b.more (Nat.le_succ k), in_cons hX x⟩
  · obtain ⟨m', rfl⟩ : ∃ k : Nat, m = k := ⟨m.toNat, by omega⟩
    cases hw : T.wt x with
    | none => exact (l1_ask h hk x hx n hn m' (by omega) (by omega) hw).mono fun e w' ⟨a, b, c⟩ => ⟨_, _, _, a, b, in_asked hX x n m'⟩
    | some q => exact (l1_busy h x m' hx n (by omega) (by omega) (by rw [hw]; rfl)).mono fun e w' ⟨a, b, c⟩ => ⟨_, _, _, a, b.more (Nat.le_succ k), in_cons hX x⟩
set_option maxRecDepth 100000 in
set_option maxHeartbeats 16000000 in
theorem walk_LocksFair (v0 : Value) (l : List Cl) (W : World) (hT : Tab W) (h0 : ClAt W W.heap.size v0 l) :
    Calls Tryd.prog 4 #[v0] W fun e w' => e = .returned (.bool true) ∧ Below W.heap.size W w' := by
  have IN := Lib.hid h0
  obtain ⟨⟨a, cp, rfl, hat⟩, hlen, hbd⟩ := h0
  have AT := Lib.hid hat
  have BD := Lib.hid hbd
  obtain ⟨N, hN⟩ : ∃ N, N = l.length := ⟨_, rfl⟩
  have NE := Lib.hid hN
  have N63 : N ≤ 9223372036854775807 := by unfold maxLen at hlen; omega
  rw [← hN]
  have T0 := Lib.hid hT
  clear hT hat hbd hlen hN
  go_enter Tryd.func4, Tryd.ntmps4
  have CA := Lib.hid (awake_any T0.out)
  go_wp2_with fail
  refine CA.out.mono ?_
  rintro e w3 ⟨rfl, hb⟩
  have TB := Lib.hid (T0.out.below hb)
  have B := Lib.hid hb
  clear T0 CA hb
  have C0 := Lib.hid (l1_new TB.out)
  go_wp2_with fail
  refine C0.out.mono ?_
  rintro e w4 ⟨t, rfl, hL⟩
  have M0 := Lib.hid hL
  clear C0 hL
  as_aux_lemma =>
    go_upto_block 0 with fail
    go_cut [20] (fun s20 wx => Hid (∃ T' X', L1 w3 (fun _ => False) wx t 300 T' ∧ T'.in_ X'))
    case first =>
      go_wp2_with fail
      go_loopw [20] (fun s20 wr => ∃ (i : Nat) (T : Tbl), s20 = .int .i64 (i : Int) ∧ i ≤ N ∧ i ≤ 300 ∧ Hid (L1 w3 (fun _ => False) wr t i T ∧ ∃ X, T.in_ X)) (fun s20 _ => N - (intOf s20).toNat)
      case atStart => exact ⟨0, _, rfl, Nat.zero_le _, Nat.zero_le _, Lib.hid ⟨M0.out, [], fun n y h => by rcases h with ⟨_, h, _⟩ | ⟨_, h, _⟩ <;> cases h⟩⟩
      case round =>
        clear M0
        obtain ⟨i, T, rfl, hiN, hi2, hI⟩ := hrel
        by_cases hlt : i < N
        · have HLT := Lib.hid hlt
          have IW := Lib.hid (IN.out.below (below_then B.out hI.out.1.kp B.out.size))
          obtain ⟨⟨a', cp', ha, hat⟩, -, -⟩ := IW.out
          obtain ⟨rfl, rfl⟩ : a = a' ∧ cp = cp' := by
            have h := ha
            rw [← NE.out] at h
            simpa using h
          obtain ⟨b, off, rfl, -, hR⟩ := hat i (by rw [← NE.out]; exact hlt)
          obtain ⟨c, hc⟩ : ∃ c, c = l[i]'(by rw [← NE.out]; exact hlt) := ⟨_, rfl⟩
          rw [← hc] at hR
          have RG := Lib.hid hR
          have CI := Lib.hid (show c.in_ from BD.out c (by rw [hc]; exact List.getElem_mem _))
          clear hat hR hc ha IW
          obtain ⟨x, ⟨s, tt⟩, m⟩ := c
          go_upto_region 7 with (first | (refine load_cl rfl _ rfl b (off + i * 4) ⟨x, ⟨s, tt⟩, m⟩ rfl RG.out ?_))
          obtain ⟨K, hK⟩ : ∃ K, K = wr.heap.size := ⟨_, rfl⟩
          have KN := Lib.hid (show Bk (wr.alloc (.cells #[.int .i64 x, .int .i64 s, .string tt, .int .i64 m] 29)) K 29 #[.int .i64 x, .int .i64 s, .string tt, .int .i64 m] from by rw [hK]; exact Bk.new wr _ _)
          have M1 := Lib.hid (show L1 w3 (fun i => i = K) (wr.alloc (.cells #[.int .i64 x, .int .i64 s, .string tt, .int .i64 m] 29)) t i T from (hI.out.1.alloc _).sub fun i hi => .inr (by rw [hi, hK]))
          obtain ⟨X, hX⟩ := hI.out.2
          have XI := Lib.hid hX
          rw [← hK]
          clear hI hK RG hX
          generalize wr.alloc (.cells #[.int .i64 x, .int .i64 s, .string tt, .int .i64 m] 29) = w5 at *
          by_cases h300 : i = 300
          · subst h300
            have M2 := Lib.hid (show ∃ T' X', L1 w3 (fun _ => False) w5 t 300 T' ∧ T'.in_ X' from ⟨_, _, M1.out.sub fun i hi => hi.elim, XI.out⟩)
            clear M1
            go_wp2
            go_meet
            exact M2
          · have h300' : ((i : Int) == 300) = false := beq_eq_false_iff_ne.2 (by omega)
            have h300'' : ¬ ((i : Int) = 300) := by omega
            have i299 : i ≤ 299 := by omega
            clear hi2 h300
            have k0 : w5.cell? ⟨K, 0, none⟩ = some (.int .i64 x) := KN.out.cell 0
            have k1 : w5.cell? ⟨K, 1, none⟩ = some (.int .i64 s) := KN.out.cell 1
            have k2 : w5.cell? ⟨K, 2, none⟩ = some (.string tt) := KN.out.cell 2
            have k3 : w5.cell? ⟨K, 3, none⟩ = some (.int .i64 m) := KN.out.cell 3
            by_cases hm : m = 0
            · subst hm
              have C1 := Lib.hid (l1_rel M1.out (by omega) x CI.out.x)
              as_aux_lemma =>
                go_wp2_with fail
                refine C1.out.mono ?_
                rintro e w6 ⟨rfl, hL, hs⟩
                have M2 := Lib.hid (show L1 w3 (fun _ => False) w6 t (i + 1) (T.release cpN x) ∧ ∃ X, (T.release cpN x).in_ X from ⟨(hL.sub fun i hi => hi.elim : L1 w3 (fun _ => False) _ _ _ _).more (Nat.le_succ i), _, in_rel M1.out.ok XI.out x⟩)
                clear C1 hL hs M1
                go_wp2
                go_roundw
                case rel => exact ⟨i + 1, _, by go_num, by have := HLT.out; omega, by omega, M2⟩
                case measure => have := HLT.out; simp [intOf]; omega
            · have hm' : (m == 0) = false := beq_eq_false_iff_ne.2 hm
              have C1 := Lib.hid (l1_anyX M1.out XI.out (by omega) x CI.out.x ⟨s, tt⟩ CI.out.n m)
              as_aux_lemma =>
                go_wp2_with fail
                refine C1.out.mono ?_
                rintro e w6 ⟨bb, cc, T', rfl, hL, hs⟩
                have M2 := Lib.hid (show L1 w3 (fun _ => False) w6 t (i + 1) T' ∧ ∃ X, T'.in_ X from ⟨(hL.sub fun i hi => hi.elim : L1 w3 (fun _ => False) _ _ _ _), _, hs⟩)
                clear C1 hL hs M1
                go_wp2
                go_roundw
                case rel => exact ⟨i + 1, _, by go_num, by have := HLT.out; omega, by omega, M2⟩
                case measure => have := HLT.out; simp [intOf]; omega
        · obtain rfl : N = i := by omega
          have M2 := Lib.hid (show ∃ T' X', L1 w3 (fun _ => False) wr t 300 T' ∧ T'.in_ X' from by
            obtain ⟨X, hX⟩ := hI.out.2
            exact ⟨_, X, hI.out.1.more hi2, hX⟩)
          clear hI hlt
          go_wp2
          go_meet
          exact M2
    case rest =>
      clear M0
      obtain ⟨T0, X, hL, hX⟩ := hcut.out
      have M0 := Lib.hid hL
      have XX := Lib.hid hX
      clear hcut hL hX
      as_aux_lemma =>
        go_wp2_with fail
        go_loopg [7] X.length (fun gg s7 wr => ∃ (T : Tbl) (X : List Int), X.length ≤ gg ∧ Hid (L1 w3 (fun _ => False) wr t 300 T ∧ T.in_ X))
        case atStart => exact ⟨T0, X, Nat.le_refl _, Lib.hid ⟨M0.out, XX.out⟩⟩
        case round =>
          clear M0 XX
          obtain ⟨T, X, hgg, hI⟩ := hrel
          have GG := Lib.hid hgg
          have M1 := Lib.hid hI.out.1
          have XX := Lib.hid hI.out.2
          have OK := Lib.hid hI.out.1.ok
          have BT := Lib.hid hI.out.1.bd
          clear hgg hI
          have C1 := Lib.hid (l1_all M1.out (by omega))
          as_aux_lemma =>
            go_wp2_with fail
            refine C1.out.mono ?_
            rintro e w6 ⟨v6, A, rfl, hA, hAl, hra, hb⟩
            have M2 := Lib.hid (show TH w3 w6 t 300 T v6 A from ⟨M1.out.kept hb, hra.mono fun _ _ => trivial⟩)
            have AA := Lib.hid hA
            have AL := Lib.hid hAl
            clear C1 M1 hb hra hA hAl
            obtain ⟨va, vc, hva⟩ := M2.out.a.slice
            subst hva
            obtain ⟨n1, hn1⟩ : ∃ n1, n1 = A.length := ⟨_, rfl⟩
            have E1 := Lib.hid hn1
            have n1b : n1 ≤ 1300000 := by rw [hn1]; exact AL.out
            rw [← hn1] at M2 ⊢
            clear hn1 AL
            by_cases hz : n1 = 0
            · have hz' : ((n1 : Int) == 0) = true := by simp [hz]
              have hz'' : (n1 : Int) = 0 := by omega
              have AN := Lib.hid (show A = [] from List.eq_nil_of_length_eq_zero (by rw [← E1.out]; exact hz))
              have C2 := Lib.hid (l1_arcs M2.out.l (by omega))
              clear hz
              as_aux_lemma =>
                go_wp2_with fail
                refine C2.out.mono ?_
                rintro e w7 ⟨v7, D, rfl, hD, -, hrd, hb⟩
                obtain rfl := all_nil OK.out hD AA.out AN.out
                obtain ⟨da, dc, rfl⟩ := hrd.slice
                have BE := Lib.hid (below_then B.out (below_then M2.out.l.kp hb M2.out.l.kp.size) B.out.size)
                clear C2 hD hrd hb
                go_wp2
                go_ret
                exact ⟨rfl, BE.out⟩
            · have hz' : ((n1 : Int) == 0) = false := by simp [hz]
              have hz'' : ¬ ((n1 : Int) = 0) := by omega
              go_upto_block 4 with fail
              go_cut [7] (fun s7 wx => ∃ f : Bool, s7 = .bool f ∧ Hid ((f = true → ∃ x, x ∈ X ∧ L1 w3 (fun _ => False) wx t 300 (T.release cpN x)) ∧ (f = false → TH w3 wx t 300 T (.slice va n1 vc) A ∧ ∀ h, h ∈ A → (T.wt h.x).isSome = true)))
              case first =>
                go_wp2_with fail
                go_loopw [7, 54] (fun s7 s54 wr => ∃ j : Nat, s54 = .int .i64 (j : Int) ∧ s7 = .bool false ∧ j ≤ n1 ∧ Hid (TH w3 wr t 300 T (.slice va n1 vc) A ∧ ∀ h, h ∈ A.take j → (T.wt h.x).isSome = true)) (fun s7 s54 _ => n1 - (intOf s54).toNat)
                case atStart => exact ⟨0, rfl, rfl, Nat.zero_le _, Lib.hid ⟨M2.out, fun h hh => by simp at hh⟩⟩
                case round =>
                  clear M2
                  obtain ⟨j, rfl, rfl, hjn, hJ⟩ := hrel
                  by_cases hlt : j < n1
                  · have HLJ := Lib.hid hlt
                    have hl1 : j < A.length := by rw [← E1.out]; exact hlt
                    obtain ⟨h, hh⟩ : ∃ h, h = A[j] := ⟨_, rfl⟩
                    obtain ⟨bh, fh, eh, rh⟩ := (show Rk wr (fun _ => True) 39 5 aC (.slice va n1 vc) A from hJ.out.1.a).cells_at (j := j) hl1
                    rw [← hh] at rh
                    have RG := Lib.hid rh
                    subst eh
                    have MEM := Lib.hid (show h ∈ A from by rw [hh]; exact List.getElem_mem _)
                    have TK := Lib.hid (show A.take (j + 1) = A.take j ++ [h] from by rw [List.take_succ_eq_append_getElem hl1, ← hh])
                    have WJ := Lib.hid hJ.out.2
                    clear rh hh
                    go_upto_region 19 with (first | (refine load_ln rfl _ rfl bh (fh + j * 5) h rfl RG.out ?_))
                    obtain ⟨V, hV⟩ : ∃ V, V = wr.heap.size := ⟨_, rfl⟩
                    have BV := Lib.hid (show Bk (wr.alloc (.cells #[.int .i64 h.n.s, .string h.n.t, .int .i64 h.x, .int .i64 (h.m : Int), .int .i64 (h.w : Int)] 39)) V 39 #[.int .i64 h.n.s, .string h.n.t, .int .i64 h.x, .int .i64 (h.m : Int), .int .i64 (h.w : Int)] from by rw [hV]; exact Bk.new wr _ _)
                    have M5 := Lib.hid (hJ.out.1.kept ((Below.refl wr.heap.size wr).alloc (Nat.le_refl _) (.cells #[.int .i64 h.n.s, .string h.n.t, .int .i64 h.x, .int .i64 (h.m : Int), .int .i64 (h.w : Int)] 39)))
                    rw [← hV]
                    clear hJ hV RG
                    generalize wr.alloc (.cells #[.int .i64 h.n.s, .string h.n.t, .int .i64 h.x, .int .i64 (h.m : Int), .int .i64 (h.w : Int)] 39) = w8 at *
                    have IX := Lib.hid (all_in BT.out AA.out MEM.out).1
                    have x2 : w8.cell? ⟨V, 2, none⟩ = some (.int .i64 h.x) := BV.out.cell 2
                    have C1 := Lib.hid (l1_wait M5.out.l h.x IX.out)
                    obtain ⟨g, hg⟩ : ∃ g, g = (T.wt h.x).isSome := ⟨_, rfl⟩
                    have HG := Lib.hid hg
                    rw [← hg] at C1
                    clear hg
                    go_wp2_with fail
                    refine C1.out.mono ?_
                    rintro e w9 ⟨rfl, hb⟩
                    have M6 := Lib.hid (M5.out.kept hb)
                    have BV2 := Lib.hid (BV.out.kept hb)
                    clear C1 M5 BV hb x2
                    cases g with
                    | true =>
                      go_wp2
                      go_roundw
                      case rel => exact ⟨j + 1, by go_num, rfl, by have := HLJ.out; omega, Lib.hid ⟨M6.out, fun k hk => by
                        rw [TK.out] at hk
                        rcases List.mem_append.1 hk with hk | hk
                        · exact WJ.out k hk
                        · rw [List.mem_singleton] at hk; rw [hk]; exact HG.out.symm⟩⟩
                      case measure => have := HLJ.out; simp [intOf]; omega
                    | false =>
                      have x2 : w9.cell? ⟨V, 2, none⟩ = some (.int .i64 h.x) := BV2.out.cell 2
                      have C2 := Lib.hid (l1_rel M6.out.l (by omega) h.x IX.out)
                      go_wp2_with fail
                      refine C2.out.mono ?_
                      rintro e w10 ⟨rfl, hL, hs⟩
                      have FIN := Lib.hid (show ∃ x, x ∈ X ∧ L1 w3 (fun _ => False) w10 t 300 (T.release cpN x) from ⟨h.x, XX.out _ _ (all_mem OK.out AA.out MEM.out).1, hL⟩)
                      clear C2 hL hs M6 BV2 x2
                      go_wp2
                      go_meet
                      exact ⟨true, rfl, Lib.hid ⟨fun _ => FIN.out, (fun h => by cases h)⟩⟩
                  · obtain rfl : n1 = j := by omega
                    have FIN := Lib.hid (show TH w3 wr t 300 T (.slice va n1 vc) A ∧ ∀ h, h ∈ A → (T.wt h.x).isSome = true from ⟨hJ.out.1, by
                      have h := hJ.out.2
                      rw [E1.out, List.take_length] at h
                      exact h⟩)
                    clear hJ hlt
                    go_wp2
                    go_meet
                    exact ⟨false, rfl, Lib.hid ⟨(fun h => by cases h), fun _ => FIN.out⟩⟩
              case rest =>
                obtain ⟨f, rfl, hf⟩ := hcut
                have FF := Lib.hid hf.out
                clear hf M2
                cases f with
                | true =>
                  obtain ⟨x, hx, hL⟩ := FF.out.1 rfl
                  have L9 := Lib.hid (show L1 w3 (fun _ => False) wc t 300 (T.release cpN x) ∧ (T.release cpN x).in_ (X.filter (· != x)) from ⟨hL, XX.out.release OK.out x⟩)
                  have LE := Lib.hid (filter_short hx)
                  clear FF hL hx
                  as_aux_lemma =>
                    go_wp2
                    go_roundg (X.filter (· != x)).length
                    case measure => exact Nat.lt_of_lt_of_le LE.out GG.out
                    case rel => exact ⟨_, _, Nat.le_refl _, L9⟩
                | false =>
                  obtain ⟨hM, hW⟩ := FF.out.2 rfl
                  have M3 := Lib.hid hM
                  have WT := Lib.hid hW
                  clear FF hM hW
                  as_aux_lemma =>
                    go_wp2_with fail
                    go_loopw [71] (fun s71 wr => ∃ j : Nat, s71 = .int .i64 (j : Int) ∧ j ≤ n1 ∧ Hid (TH w3 wr t 300 T (.slice va n1 vc) A)) (fun s71 _ => n1 - (intOf s71).toNat)
                    case atStart => exact ⟨0, rfl, Nat.zero_le _, M3⟩
                    case round =>
                      clear M3
                      obtain ⟨j, rfl, hjn, hJ⟩ := hrel
                      by_cases hlt : j < n1
                      · have HLJ := Lib.hid hlt
                        have hl1 : j < A.length := by rw [← E1.out]; exact hlt
                        obtain ⟨h, hh⟩ : ∃ h, h = A[j] := ⟨_, rfl⟩
                        obtain ⟨bh, fh, eh, rh⟩ := (show Rk wr (fun _ => True) 39 5 aC (.slice va n1 vc) A from hJ.out.a).cells_at (j := j) hl1
                        rw [← hh] at rh
                        have RG := Lib.hid rh
                        subst eh
                        have MEM := Lib.hid (show h ∈ A from by rw [hh]; exact List.getElem_mem _)
                        clear rh hh
                        go_upto_region 27 with (first | (refine load_ln rfl _ rfl bh (fh + j * 5) h rfl RG.out ?_))
                        obtain ⟨V, hV⟩ : ∃ V, V = wr.heap.size := ⟨_, rfl⟩
                        have BV := Lib.hid (show Bk (wr.alloc (.cells #[.int .i64 h.n.s, .string h.n.t, .int .i64 h.x, .int .i64 (h.m : Int), .int .i64 (h.w : Int)] 39)) V 39 #[.int .i64 h.n.s, .string h.n.t, .int .i64 h.x, .int .i64 (h.m : Int), .int .i64 (h.w : Int)] from by rw [hV]; exact Bk.new wr _ _)
                        have M5 := Lib.hid (hJ.out.kept ((Below.refl wr.heap.size wr).alloc (Nat.le_refl _) (.cells #[.int .i64 h.n.s, .string h.n.t, .int .i64 h.x, .int .i64 (h.m : Int), .int .i64 (h.w : Int)] 39)))
                        rw [← hV]
                        clear hJ hV RG
                        generalize wr.alloc (.cells #[.int .i64 h.n.s, .string h.n.t, .int .i64 h.x, .int .i64 (h.m : Int), .int .i64 (h.w : Int)] 39) = w8 at *
                        have C1 := Lib.hid (l1_arcs M5.out.l (by omega))
                        as_aux_lemma =>
                          go_wp2_with fail
                          refine C1.out.mono ?_
                          rintro e w9 ⟨v7, D, rfl, hD, hDl, hrd, hb⟩
                          have M6 := Lib.hid (show TG w3 w9 t 300 T (.slice (some ⟨bh, fh, none⟩) n1 vc) A v7 D from ⟨M5.out.l.kept hb, M5.out.a.kept hb, hrd.mono fun _ _ => trivial⟩)
                          have BV2 := Lib.hid (BV.out.kept hb)
                          have DD := Lib.hid hD
                          have DL := Lib.hid hDl
                          have FD := Lib.hid (show D.any (fun p => p.1 == h.x && (T.wt p.2).isSome) = true from by
                            obtain ⟨n, y, hy, hhas⟩ := Tbl.cause OK.out hD (WT.out h MEM.out)
                            obtain ⟨a2, ha2, rfl⟩ := all_has AA.out hhas
                            rw [List.any_eq_true]
                            exact ⟨_, hy, by simp [WT.out a2 ha2]⟩)
                          clear C1 M5 BV hb hrd hD hDl
                          obtain ⟨da, dc, hda⟩ := M6.out.b.slice
                          subst hda
                          obtain ⟨n2, hn2⟩ : ∃ n2, n2 = D.length := ⟨_, rfl⟩
                          have E2 := Lib.hid hn2
                          have n2b : n2 ≤ 1000000000 := by rw [hn2]; exact DL.out
                          rw [← hn2] at M6 ⊢
                          clear hn2 DL
                          as_aux_lemma =>
                            go_wp2_with fail
                            go_loopw [12, 78] (fun s12 s78 wr => ∃ m : Nat, s78 = .int .i64 (m : Int) ∧ m ≤ n2 ∧ s12 = .bool ((D.take m).any (fun p => p.1 == h.x && (T.wt p.2).isSome)) ∧ Hid (TG w3 wr t 300 T (.slice (some ⟨bh, fh, none⟩) n1 vc) A (.slice da n2 dc) D ∧ Bk wr V 39 #[.int .i64 h.n.s, .string h.n.t, .int .i64 h.x, .int .i64 (h.m : Int), .int .i64 (h.w : Int)])) (fun s12 s78 _ => n2 - (intOf s78).toNat)
                            case atStart => exact ⟨0, rfl, Nat.zero_le _, rfl, Lib.hid ⟨M6.out, BV2.out⟩⟩
                            case round =>
                              clear M6 BV2
                              obtain ⟨m, rfl, hmr, rfl, hQ⟩ := hrel
                              obtain ⟨f, hf⟩ : ∃ f, f = (D.take m).any (fun p => p.1 == h.x && (T.wt p.2).isSome) := ⟨_, rfl⟩
                              have FF := Lib.hid hf
                              rw [← hf]
                              clear hf
                              by_cases hlt : m < n2
                              · have HLM := Lib.hid hlt
                                have hl2 : m < D.length := by rw [← E2.out]; exact hlt
                                obtain ⟨p, hp⟩ : ∃ p, p = D[m] := ⟨_, rfl⟩
                                obtain ⟨bp, fp, ep, rp⟩ := (show Rk wr (fun _ => True) 41 2 pC (.slice da n2 dc) D from hQ.out.1.b).cells_at (j := m) hl2
                                rw [← hp] at rp
                                have RG := Lib.hid rp
                                have IP := Lib.hid (arcs_in BT.out DD.out (show p ∈ D from by rw [hp]; exact List.getElem_mem _))
                                have TK := Lib.hid (show (D.take (m + 1)).any (fun p => p.1 == h.x && (T.wt p.2).isSome) = (f || (p.1 == h.x && (T.wt p.2).isSome)) from by rw [List.take_succ_eq_append_getElem hl2, ← hp, List.any_append, FF.out]; simp)
                                subst ep
                                clear rp hp
                                go_upto_region 31 with (first | (refine load_pr rfl _ rfl bp (fp + m * 2) p rfl RG.out ?_))
                                obtain ⟨V2, hV⟩ : ∃ V2, V2 = wr.heap.size := ⟨_, rfl⟩
                                have BV2 := Lib.hid (show Bk (wr.alloc (.cells #[.int .i64 p.1, .int .i64 p.2] 41)) V2 41 #[.int .i64 p.1, .int .i64 p.2] from by rw [hV]; exact Bk.new wr _ _)
                                have M6 := Lib.hid (hQ.out.1.kept ((Below.refl wr.heap.size wr).alloc (Nat.le_refl _) (.cells #[.int .i64 p.1, .int .i64 p.2] 41)))
                                have BV := Lib.hid (hQ.out.2.kept ((Below.refl wr.heap.size wr).alloc (Nat.le_refl _) (.cells #[.int .i64 p.1, .int .i64 p.2] 41)))
                                rw [← hV]
                                clear hQ hV RG
                                generalize wr.alloc (.cells #[.int .i64 p.1, .int .i64 p.2] 41) = w9 at *
                                have x2 : w9.cell? ⟨V, 2, none⟩ = some (.int .i64 h.x) := BV.out.cell 2
                                have y0 : w9.cell? ⟨V2, 0, none⟩ = some (.int .i64 p.1) := BV2.out.cell 0
                                have y1 : w9.cell? ⟨V2, 1, none⟩ = some (.int .i64 p.2) := BV2.out.cell 1
                                cases f with
                                | true =>
                                  as_aux_lemma =>
                                    go_wp2
                                    go_roundw
                                    case rel => exact ⟨m + 1, by go_num, by have := HLM.out; omega, by rw [TK.out]; rfl, Lib.hid ⟨M6.out, BV.out⟩⟩
                                    case measure => have := HLM.out; simp [intOf]; omega
                                | false =>
                                  by_cases hg : p.1 = h.x
                                  · have hg' : (p.1 == h.x) = true := by simp [hg]
                                    have CW := Lib.hid (l1_wait M6.out.l p.2 IP.out)
                                    obtain ⟨g, hgg⟩ : ∃ g, g = (T.wt p.2).isSome := ⟨_, rfl⟩
                                    have HGG := Lib.hid hgg
                                    have HG := Lib.hid hg'
                                    rw [← hgg] at CW
                                    clear hgg
                                    as_aux_lemma =>
                                      go_wp2_with fail
                                      refine CW.out.mono ?_
                                      rintro e w10 ⟨rfl, hb⟩
                                      have M7 := Lib.hid (M6.out.kept hb)
                                      have BV3 := Lib.hid (BV.out.kept hb)
                                      clear CW M6 BV BV2 hb x2 y0 y1
                                      cases g with
                                      | true =>
                                        go_wp2
                                        go_roundw
                                        case rel => exact ⟨m + 1, by go_num, by have := HLM.out; omega, by rw [TK.out, HG.out, ← HGG.out]; rfl, Lib.hid ⟨M7.out, BV3.out⟩⟩
                                        case measure => have := HLM.out; simp [intOf]; omega
                                      | false =>
                                        go_wp2
                                        go_roundw
                                        case rel => exact ⟨m + 1, by go_num, by have := HLM.out; omega, by rw [TK.out, HG.out, ← HGG.out]; rfl, Lib.hid ⟨M7.out, BV3.out⟩⟩
                                        case measure => have := HLM.out; simp [intOf]; omega
                                  · have hg' : (p.1 == h.x) = false := by simp [hg]
                                    have HG := Lib.hid hg'
                                    as_aux_lemma =>
                                      go_wp2
                                      go_roundw
                                      case rel => exact ⟨m + 1, by go_num, by have := HLM.out; omega, by rw [TK.out, HG.out]; rfl, Lib.hid ⟨M6.out, BV.out⟩⟩
                                      case measure => have := HLM.out; simp [intOf]; omega
                              · obtain rfl : n2 = m := by omega
                                obtain rfl : f = true := by
                                  have h := FF.out
                                  rw [E2.out, List.take_length] at h
                                  rw [h]; exact FD.out
                                have M7 := Lib.hid (show TH w3 wr t 300 T (.slice (some ⟨bh, fh, none⟩) n1 vc) A from ⟨hQ.out.1.l, hQ.out.1.a⟩)
                                clear hQ hlt
                                as_aux_lemma =>
                                  go_wp2
                                  go_roundw
                                  case rel => exact ⟨j + 1, by go_num, by have := HLJ.out; omega, M7⟩
                                  case measure => have := HLJ.out; simp [intOf]; omega
                      · obtain rfl : n1 = j := by omega
                        have BE := Lib.hid (below_then B.out hJ.out.l.kp B.out.size)
                        clear hJ hlt
                        go_wp2
                        go_ret
                        exact ⟨rfl, BE.out⟩
end Go.Proofs.YtnpnpkaklamboaaDoor
