/- Layer 17: LobPieces. Layer 17: the law's steps; LobApart. Layer 17: LobSteps. -/
import Derived.Test.YtaiiimlmkigajaaLobCh
import Derived.Deep.CutBlock
import Derived.Deep.DeepCutAuto
set_option linter.unusedVariables false
set_option linter.unusedSimpArgs false
namespace Go.Proofs.Ytaiiimlmkigajaa
open Go.RowKit Go.Maps Go.ChangeShapes Go.WideShapes Go.ChangeAt Go.Deep

/-- Numbers in a slice that came in. -/
structure NmIn (w : World) (v : Value) (l : List Int) : Prop where
  at_ : ∃ a c, v = .slice a l.length c ∧ (0 < l.length → ∃ b off, a = some (⟨b, off, none⟩ : Addr) ∧ b < w.heap.size ∧ ∀ i x, l[i]? = some x → w.cell? ⟨b, off + i, none⟩ = some (.int .i64 x))
  len : l.length ≤ maxLen
  bd : ∀ i ∈ l, in64 i
theorem NmIn.kept {w w' : World} {v : Value} {l : List Int} (h : NmIn w v l) (hb : Below w.heap.size w w') : NmIn w' v l := by
  obtain ⟨a, c, e, h1⟩ := h.at_
  refine ⟨⟨a, c, e, fun hm => ?_⟩, h.len, h.bd⟩
  obtain ⟨b, off, e1, hlt, hc⟩ := h1 hm
  exact ⟨b, off, e1, Nat.lt_of_lt_of_le hlt hb.size, fun i p hi => (hb.cell (p := ⟨b, off + i, none⟩) hlt).trans (hc i p hi)⟩
section
variable {H : Type} {enc : TypeId × Value → H} {w : World} {base : Nat} {held : Bool}
set_option maxRecDepth 100000 in
theorem read_nums {r : Reach} {b0 : Nat} {d : DataW H} {p : List MemPlace} {v : Value}
    (hv : Value.okWide Try.prog w r b0 28 v) (h : DataW.Trod enc Try.prog w base (fun _ => true) held 28 v d p) : ∃ l : List Int, NmIn w v l := by
  obtain ⟨fuel, hf⟩ := h
  obtain ⟨a0, len0, cap0, rfl⟩ := okWide_slice Try.underlying28 hv
  have hf' : DataW.trod enc Try.prog w base (fun _ => true) held fuel 28 [.slice a0 len0 cap0] = some (d, p) := hf
  obtain ⟨a, len, cap, hve, h1, h2, _, _, L, hL, hat⟩ := rows_trod (C := 1) Try.underlying28 (by kernel_rfl) (by omega) hf'
  rw [hve]
  have him : ∀ i, ∃ mm : Int, i < len → L i = [.int .i64 mm] ∧ in64 mm := by
    intro i
    by_cases hi : i < len
    · obtain ⟨hlen, n, y, ht⟩ := hL i hi
      match hq : L i, hlen with
      | [u], _ =>
        rw [hq] at ht
        obtain ⟨s, hs, _, hz⟩ := DataW.trod_int Try.underlying3 ht
        exact ⟨s, fun _ => ⟨by simpa using hs, int_in hz⟩⟩
    · exact ⟨0, fun h => absurd h hi⟩
  have hll : ((List.range len).map fun i => (him i).choose).length = len := by simp
  refine ⟨(List.range len).map fun i => (him i).choose, ⟨a, cap, by rw [hll], fun h0 => ?_⟩, by rw [hll]; omega, fun i hi => ?_⟩
  · rw [hll] at h0
    obtain ⟨b, off, e1, hlt, hc⟩ := hat h0
    refine ⟨b, off, e1, hlt, fun i p hi => ?_⟩
    have hil : i < len := by have := (List.getElem?_eq_some_iff.1 hi).1; rwa [hll] at this
    rw [List.getElem?_map, List.getElem?_range hil] at hi
    simp at hi
    subst hi
    have := hc i 0 (.int .i64 (him i).choose) hil (congrArg (fun l : List Value => l[0]?) ((him i).choose_spec hil).1)
    simpa using this
  · obtain ⟨k, hk, rfl⟩ := List.mem_map.1 hi
    exact ((him k).choose_spec (List.mem_range.1 hk)).2
end
def D5 (n : Int) (d : ByteArray) : Do := setD (fun _ => none) n (some d)
theorem D5_at (n : Int) (d : ByteArray) : D5 n d n = some d := if_pos rfl
theorem D5_set (n : Int) (d : ByteArray) (o : ByteArray) : setD (D5 n d) n (some o) = D5 n o := by
  funext k
  unfold D5 setD
  by_cases e : k = n
  · rw [if_pos e, if_pos e]
  · rw [if_neg e, if_neg e, if_neg e]
theorem D5_sz {n : Int} {d : ByteArray} (h : d.size ≤ 4096) : ∀ k x, D5 n d k = some x → x.size ≤ 4096 := fun k x hx => by
  unfold D5 setD at hx
  by_cases e : k = n
  · rw [if_pos e] at hx; injection hx with hx; rw [← hx]; exact h
  · rw [if_neg e] at hx; cases hx
theorem wr_long {D : Do} {num : Int} {d val : ByteArray} (hok : okN num) (hd : D num = some d) (hv : 64 < val.size) : wrD D num d.size val = (2, none) := by
  obtain ⟨e1, e2⟩ := er_yes hok hd
  unfold wrD
  rw [if_neg (not_not_intro e1), e2, if_neg (by omega), if_pos (.inl hv)]
theorem ext_app (d : ByteArray) (a n : Nat) : d.extract 0 a ++ d.extract a (a + n) = d.extract 0 (a + n) := by
  refine ba_list ?_
  rw [ByteArray.data_append, Array.toList_append, ext_list, ext_list, ext_list, List.drop_zero, List.drop_zero]
  have h1 := List.take_append_drop a (d.data.toList.take (a + n))
  rw [List.take_take, Nat.min_eq_left (by omega)] at h1
  exact h1
theorem ext_all (d : ByteArray) : d.extract 0 d.size = d := by
  refine ba_list ?_
  rw [ext_list, List.drop_zero]
  have hl : d.data.toList.length = d.size := by rw [Array.length_toList]; rfl
  exact List.take_of_length_le (by omega)
/-- A new object, made in a new volume. -/
theorem new_land {w : World} {B g b gs r M : Nat} {m : Nat} (h : Od w B g b gs r M (fun _ => none) m) (num : Int) (hok : okN num) (v : Value) (base : Nat) (ho : StOwn w base v num (stepL (pcO none) (pcO (some ⟨#[]⟩)) (max (pcO none).length (pcO (some ⟨#[]⟩)).length))) (hbase : b < base) (hM : M + 10240 < 1000000) (hm : m + 1 ≤ 500) :
    Calls Try.prog 12 #[.pointer (some ⟨g, 0, none⟩), v] w fun e w' => e = .returned (.bool true) ∧ Od w' B g b gs r (M + 10240) (D5 num ⟨#[]⟩) (m + 1) ∧ w.grownBy w' (some b) :=
  ch_land h num hok (some ⟨#[]⟩) (fun d hd => by injection hd with hd; rw [← hd]; decide) v base ho hbase hM 1 (by show (cutB ⟨#[]⟩).length ≤ _; rw [cut_empty]; exact Nat.le_add_left 1 _) hm
set_option maxRecDepth 100000 in
set_option maxHeartbeats 24000000 in
theorem walk_LobPieces (v : Value) (ps : List ByteArray) (v2 : Value) (cs : List Int) (w : World) (h : SRow w v ps ∧ ∀ k, k ∈ ps → k.size ≤ maxLen) (h2 : NmIn w v2 cs) :
    Calls Try.prog 4 #[v, v2] w fun e w' => e = .returned (.bool true) ∧ Below w.heap.size w w' := by
  obtain ⟨h1, hz⟩ := h
  have P0 := Lib.hid h1; have PZ := Lib.hid hz; have C0 := Lib.hid h2
  obtain ⟨pa, pc, rfl, -, -⟩ := srow_cell h1
  obtain ⟨ca, cc, rfl, -⟩ := h2.at_
  obtain ⟨pl, hpl⟩ : ∃ pl, pl = ps.length := ⟨_, rfl⟩
  obtain ⟨cl, hcl⟩ : ∃ cl, cl = cs.length := ⟨_, rfl⟩
  have PL := Lib.hid (show pl = ps.length ∧ pl ≤ maxLen from ⟨hpl, by rw [hpl]; exact h1.1⟩); have CL := Lib.hid (show cl = cs.length ∧ cl ≤ maxLen from ⟨hcl, by rw [hcl]; exact h2.len⟩)
  rw [← hpl] at P0 ⊢; rw [← hcl] at C0 ⊢
  have CA := Lib.hid (awake17 w)
  clear h1 hz h2 hpl hcl
  go_enter Try.func4, Try.ntmps4
  go_wp2_with fail
  refine CA.out.mono ?_
  rintro e w1 ⟨rfl, hb⟩
  have B1 := Lib.hid hb
  have P1 := Lib.hid (P0.out.kept hb); have C1 := Lib.hid (C0.out.kept hb)
  have CV := Lib.hid (volume17 w1)
  have SZ := Lib.hid hb.size
  clear hb CA P0 C0
  as_aux_lemma =>
    go_wp2_with fail
    refine CV.out.mono ?_
    rintro e w2 ⟨g, b, gs, r, rfl, hv, hb⟩
    have V2 := Lib.hid hv; have B2 := Lib.hid hb
    have BG := Lib.hid (show w1.heap.size ≤ b from hv.lo.b_ge)
    clear hv hb CV
    have p9 : pl ≤ 9223372036854775807 := by have := PL.out.2; unfold maxLen at this; omega
    by_cases c20 : (20 : Int) < (pl : Int)
    · as_aux_lemma =>
        go_wp2
        go_ret
        exact ⟨rfl, B1.out.trans (B2.out.mono SZ.out)⟩
    have P20 := Lib.hid (show pl ≤ 20 by omega)
    have c20n : ¬ 20 < pl := by omega
    have CN := Lib.hid (bnew_any V2.out 5)
    as_aux_lemma =>
      go_wp2_with fail
      refine CN.out.mono ?_
      rintro e w3 ⟨nv, rfl, -, h2, hb⟩
      clear c20 c20n
      have e0 := new_empty (fun _ => none) 5 (by decide) rfl
      obtain ⟨-, ho⟩ := h2 (by rw [e0])
      rw [e0] at ho ⊢
      have V3 := Lib.hid (V2.out.kept hb); have B3 := Lib.hid (below_then B2.out hb B2.out.size)
      have CL2 := Lib.hid (new_land V3.out 5 (by decide) nv w2.heap.size ho V2.out.lo.ne.2.1 (by decide) (by decide))
      clear e0 ho h2 hb CN V2 B2
      as_aux_lemma =>
        go_wp2_with fail
        refine CL2.out.mono ?_
        rintro e w4 ⟨rfl, hv, hg⟩
        have V4 := Lib.hid hv; have B4 := Lib.hid (bl_grow B3.out hg (fun k hk => by cases hk; exact BG.out) B3.out.size)
        clear hv hg CL2 V3 B3
        as_aux_lemma =>
          go_upto_region 11 with fail
          go_loopw [9, 52] (fun al iv wr => ∃ (k M m : Nat) (d : ByteArray), iv = .int .i64 k ∧ al = .string d ∧ k ≤ pl ∧ M ≤ 10245 + 10240 * k ∧ m ≤ 2 + 4 * k ∧ d.size ≤ 64 * k ∧ Od wr w1.heap.size g b gs r M (D5 5 d) m ∧ Below w1.heap.size w1 wr) (fun _ iv _ => pl - (RowKit.intOf iv).toNat)
          case atStart => exact ⟨0, _, _, ⟨#[]⟩, rfl, rfl, Nat.zero_le _, Nat.le_refl _, Nat.le_refl _, Nat.le_refl _, V4.out, B4.out⟩
          case round =>
            clear V4 B4
            obtain ⟨k, M, m, d, rfl, rfl, hk, hM, hm, hd, hv, hb⟩ := hrel
            have V := Lib.hid hv; have BW := Lib.hid hb
            have N := Lib.hid (show k ≤ pl ∧ M ≤ 10245 + 10240 * k ∧ m ≤ 2 + 4 * k ∧ d.size ≤ 64 * k from ⟨hk, hM, hm, hd⟩)
            have d9 : d.size ≤ 9223372036854775807 := by have := P20.out; omega
            clear hv hb hM hm hd hk
            by_cases hlt : k < pl
            · have HLT := Lib.hid hlt
              have hlti : (k : Int) < (pl : Int) := by omega
              have kb : k < 9223372036854775807 := by omega
              obtain ⟨p, hp⟩ : ∃ p, p = ps.getD k ⟨#[]⟩ := ⟨_, rfl⟩
              obtain ⟨pb, poff, rfl, x0⟩ : ∃ pb poff, pa = some (⟨pb, poff, none⟩ : Addr) ∧ wr.cell? ⟨pb, poff + k, none⟩ = some (.string p) := by
                obtain ⟨a', c', e1, -, hc⟩ := srow_cell (P1.out.kept BW.out)
                obtain ⟨b', off, e2, e3⟩ := hc k (by rw [← PL.out.1]; exact hlt)
                injection e1 with e1
                exact ⟨b', off, by rw [e1]; exact e2, by rw [hp]; exact e3⟩
              have PZ1 := Lib.hid (show p.size ≤ maxLen from PZ.out p (by rw [hp, List.getD_eq_getElem?_getD, List.getElem?_eq_getElem (by rw [← PL.out.1]; exact hlt)]; exact List.getElem_mem _))
              have pz9 : p.size ≤ 9223372036854775807 := by have := PZ1.out; unfold maxLen at this; omega
              have CW := Lib.hid (bwrite_any V.out 5 d.size p PZ1.out)
              clear hp hlt
              by_cases c64 : 64 < p.size
              · have c64i : (64 : Int) < (p.size : Int) := by omega
                have EW := Lib.hid (wr_long (by decide) (D5_at 5 d) c64)
                clear c64
                as_aux_lemma =>
                  go_wp2_with fail
                  refine CW.out.mono ?_
                  rintro e w5 ⟨sv, rfl, -, -, hb⟩
                  rw [EW.out]
                  have V5 := Lib.hid (V.out.kept hb); have B5 := Lib.hid (below_then BW.out hb BW.out.size)
                  clear hb CW V BW
                  go_wp2
                  go_roundw
                  case rel => exact ⟨k + 1, M, m, d, by push_cast; rfl, rfl, by have := HLT.out; omega, by have := N.out; omega, by have := N.out; omega, by have := N.out; omega, V5.out, B5.out⟩
                  case measure => have := HLT.out; simp [RowKit.intOf]; omega
              · have c64i : ¬ (64 : Int) < (p.size : Int) := by omega
                have P64 := Lib.hid (show p.size ≤ 64 by omega)
                have EW := Lib.hid (wr_end (by decide) (D5_at 5 d) P64.out (by have := N.out; have := P20.out; omega))
                clear c64
                as_aux_lemma =>
                  go_wp2_with fail
                  refine CW.out.mono ?_
                  rintro e w5 ⟨sv, rfl, -, h2, hb⟩
                  obtain ⟨-, ho⟩ := h2 (by rw [EW.out])
                  rw [EW.out] at ho ⊢
                  have V5 := Lib.hid (V.out.kept hb); have B5 := Lib.hid (below_then BW.out hb BW.out.size)
                  have nz : (d ++ p).size = d.size + p.size := ByteArray.size_append
                  have CLD := ch_land V5.out 5 (by decide) (some (d ++ p)) (fun x hx => by injection hx with hx; rw [← hx, nz]; have := N.out; have := P20.out; have := P64.out; omega) sv wr.heap.size ho V.out.lo.ne.2.1 (by have := N.out; have := P20.out; omega) 4 (by rw [D5_at]; exact pcO_grow (by rw [nz]; have := P64.out; omega)) (by have := N.out; have := P20.out; omega)
                  rw [D5_set] at CLD
                  have CLD := Lib.hid CLD
                  have NZ := Lib.hid nz
                  clear ho h2 hb CW V BW nz
                  as_aux_lemma =>
                    go_wp2_with fail
                    refine CLD.out.mono ?_
                    rintro e w6 ⟨rfl, hv, hg⟩
                    have V6 := Lib.hid hv; have B6 := Lib.hid (bl_grow B5.out hg (fun k hk => by cases hk; exact BG.out) B5.out.size)
                    have zs : ¬ 9223372036854775807 < d.size + p.size := by have := N.out; have := P20.out; have := P64.out; omega
                    clear hv hg CLD V5 B5
                    go_wp2
                    go_roundw
                    case rel => exact ⟨k + 1, M + 10240, m + 4, d ++ p, by push_cast; rfl, rfl, by have := HLT.out; omega, by have := N.out; omega, by have := N.out; omega, by rw [NZ.out]; have := N.out; have := P64.out; omega, V6.out, B6.out⟩
                    case measure => have := HLT.out; simp [RowKit.intOf]; omega
            · obtain rfl : k = pl := by have := N.out; omega
              have hni : ¬ (k : Int) < (k : Int) := by omega
              have DZ := Lib.hid (show d.size ≤ 1280 by have := N.out; have := P20.out; omega)
              have cl9 : cl ≤ 9223372036854775807 := by have := CL.out.2; unfold maxLen at this; omega
              clear hlt N
              as_aux_lemma =>
                go_upto_region 23 with fail
                have I0 := Lib.hid (show Value.string ⟨#[]⟩ = .string (d.extract 0 0) from by
                  congr 1
                  exact (ba_list (by rw [ext_list]; rfl)).symm)
                go_loopw [14, 15, 83] (fun av gv iv wr => ∃ (t a : Nat), iv = .int .i64 t ∧ av = .int .i64 a ∧ gv = .string (d.extract 0 a) ∧ t ≤ cl ∧ a ≤ d.size ∧ Od wr w1.heap.size g b gs r M (D5 5 d) m ∧ Below w1.heap.size w1 wr) (fun _ _ iv _ => cl - (RowKit.intOf iv).toNat)
                case atStart => exact ⟨0, 0, rfl, rfl, I0.out, Nat.zero_le _, Nat.zero_le _, V.out, BW.out⟩
                case round =>
                  clear V BW
                  obtain ⟨t, a, rfl, rfl, rfl, ht, ha, hv, hb⟩ := hrel
                  have V := Lib.hid hv; have BW := Lib.hid hb
                  have A := Lib.hid (show t ≤ cl ∧ a ≤ d.size from ⟨ht, ha⟩)
                  clear hv hb ht ha
                  by_cases hlt : t < cl
                  · have HLT := Lib.hid hlt
                    have hlti : (t : Int) < (cl : Int) := by omega
                    have tb : t < 9223372036854775807 := by omega
                    obtain ⟨n, hn⟩ : ∃ n, cs[t]? = some n := ⟨_, List.getElem?_eq_getElem (by rw [← CL.out.1]; exact hlt)⟩
                    obtain ⟨cb, coff, rfl, x0⟩ : ∃ cb coff, ca = some (⟨cb, coff, none⟩ : Addr) ∧ wr.cell? ⟨cb, coff + t, none⟩ = some (.int .i64 n) := by
                      obtain ⟨a', c', e1, hc⟩ := (C1.out.kept BW.out).at_
                      obtain ⟨b', off, e2, -, e3⟩ := hc (by rw [← CL.out.1]; omega)
                      injection e1 with e1
                      exact ⟨b', off, by rw [e1]; exact e2, e3 t n hn⟩
                    have NI := Lib.hid (C1.out.bd n (List.mem_of_getElem? hn))
                    have wr1 : wrap64 ((d.size : Int) - (a : Int)) = (d.size : Int) - (a : Int) := by have := A.out; have := DZ.out; unfold wrap64; omega
                    clear hn hlt
                    by_cases n0 : n < 0
                    · as_aux_lemma =>
                        go_wp2
                        go_roundw
                        case rel => exact ⟨t + 1, a, by push_cast; rfl, rfl, rfl, by have := HLT.out; omega, A.out.2, V.out, BW.out⟩
                        case measure => have := HLT.out; simp [RowKit.intOf]; omega
                    by_cases n1 : (d.size : Int) - (a : Int) < n
                    · as_aux_lemma =>
                        go_wp2
                        go_roundw
                        case rel => exact ⟨t + 1, a, by push_cast; rfl, rfl, rfl, by have := HLT.out; omega, A.out.2, V.out, BW.out⟩
                        case measure => have := HLT.out; simp [RowKit.intOf]; omega
                    obtain ⟨q, rfl⟩ := Int.eq_ofNat_of_zero_le (show 0 ≤ n by omega)
                    have QA := Lib.hid (show a + q ≤ d.size by have := A.out; omega)
                    have CR := bread_any V.out 5 (a : Int) (q : Int)
                    rw [rd_part (by decide) (D5_at 5 d) a q QA.out] at CR
                    have CR := Lib.hid CR
                    as_aux_lemma =>
                      go_wp2_with fail
                      refine CR.out.mono ?_
                      rintro e w5 ⟨rfl, hb⟩
                      have V5 := Lib.hid (V.out.kept hb); have B5 := Lib.hid (below_then BW.out hb BW.out.size)
                      have zs : ¬ 9223372036854775807 < (d.extract 0 a).size + (d.extract a (a + q)).size := by rw [ByteArray.size_extract, ByteArray.size_extract]; have := QA.out; have := DZ.out; omega
                      have wr2 : wrap64 ((a : Int) + (q : Int)) = (a : Int) + (q : Int) := by have := QA.out; have := DZ.out; unfold wrap64; omega
                      have EA := Lib.hid (show Value.string (d.extract 0 a ++ d.extract a (a + q)) = .string (d.extract 0 (a + q)) by rw [ext_app])
                      generalize d.extract 0 a = s1 at *
                      generalize d.extract a (a + q) = s2 at *
                      clear hb CR V BW
                      go_wp2
                      go_roundw
                      case rel => exact ⟨t + 1, a + q, by push_cast; rfl, by push_cast; rfl, EA.out, by have := HLT.out; omega, QA.out, V5.out, B5.out⟩
                      case measure => have := HLT.out; simp [RowKit.intOf]; omega
                  · obtain rfl : t = cl := by have := A.out; omega
                    have hni2 : ¬ (t : Int) < (t : Int) := by omega
                    have wr1 : wrap64 ((d.size : Int) - (a : Int)) = (d.size : Int) - (a : Int) := by have := A.out; have := DZ.out; unfold wrap64; omega
                    have ea : (d.size : Int) - (a : Int) = ((d.size - a : Nat) : Int) := by have := A.out; omega
                    have CR := bread_any V.out 5 (a : Int) ((d.size - a : Nat) : Int)
                    rw [rd_part (by decide) (D5_at 5 d) a (d.size - a) (by have := A.out; omega), ← ea] at CR
                    have zs : ¬ 9223372036854775807 < (d.extract 0 a).size + (d.extract a (a + (d.size - a))).size := by rw [ByteArray.size_extract, ByteArray.size_extract]; have := A.out; have := DZ.out; omega
                    have es : ((d.extract 0 a ++ d.extract a (a + (d.size - a))).toList == d.toList) = true := by
                      rw [ext_app, show a + (d.size - a) = d.size by have := A.out; omega, ext_all]; simp
                    generalize d.extract a (a + (d.size - a)) = s2 at *
                    have CR := Lib.hid CR
                    clear hlt ea
                    as_aux_lemma =>
                      go_wp2_with fail
                      refine CR.out.mono ?_
                      rintro e w5 ⟨rfl, hb⟩
                      have V5 := Lib.hid (V.out.kept hb); have B5 := Lib.hid (below_then BW.out hb BW.out.size)
                      have CE := blen_any V5.out 5
                      rw [(er_yes (by decide) (D5_at 5 d)).1, (er_yes (by decide) (D5_at 5 d)).2] at CE
                      have CE := Lib.hid CE
                      clear hb CR V BW
                      as_aux_lemma =>
                        go_wp2_with fail
                        refine CE.out.mono ?_
                        rintro e w6 ⟨rfl, hb⟩
                        have B6 := Lib.hid (below_then B5.out hb B5.out.size)
                        generalize d.extract 0 a = s1 at *
                        clear hb CE V5 B5
                        go_wp2
                        go_ret
                        exact ⟨rfl, B1.out.trans (B6.out.mono SZ.out)⟩
end Go.Proofs.Ytaiiimlmkigajaa
namespace Go.Proofs.Ytaiiimlmkigajaa
open Go.RowKit Go.Maps Go.ChangeShapes Go.WideShapes Go.ChangeAt Go.Deep

/-- What an operation on an object answers, and leaves of it. -/
def opD (D : Do) (o : Opn) : Int × Option ByteArray :=
  if o.k = 18 then newD D o.num else if o.k = 21 then wrD D o.num o.at_ o.val else if o.k = 22 then cutD D o.num o.len else delD D o.num
theorem opD_ok {D : Do} (hs : ∀ n d, D n = some d → d.size ≤ 4096) (o : Opn) (h : (opD D o).1 = 0) : okN o.num ∧ (∀ d, (opD D o).2 = some d → d.size ≤ 4096) ∧ (pcO (opD D o).2).length ≤ (pcO (D o.num)).length + 4 := by
  unfold opD at h ⊢
  by_cases c1 : o.k = 18
  · rw [if_pos c1] at h ⊢
    unfold newD at h ⊢
    by_cases hn : okN o.num
    · rw [if_neg (not_not_intro hn)] at h ⊢
      cases hd : D o.num with
      | some d => rw [hd] at h; exact absurd (show (160 : Int) = 0 from h) (by decide)
      | none =>
        refine ⟨hn, fun d h => by injection h with h; rw [← h]; decide, ?_⟩
        show (cutB ⟨#[]⟩).length ≤ _
        rw [cut_empty]; exact Nat.le_trans (by decide : 1 ≤ 4) (Nat.le_add_left _ _)
    · rw [if_pos hn] at h; exact absurd h (by decide)
  rw [if_neg c1] at h ⊢
  by_cases c2 : o.k = 21
  · rw [if_pos c2] at h ⊢
    obtain ⟨h1, h2, d', h3, h4, h5⟩ := wrD_zero h hs
    rw [h3, h2]
    exact ⟨h1, fun d hd => by injection hd with hd; rw [← hd]; exact h4, pcO_grow h5⟩
  rw [if_neg c2] at h ⊢
  by_cases c3 : o.k = 22
  · rw [if_pos c3] at h ⊢
    unfold cutD at h ⊢
    by_cases c0 : erD D o.num = 0
    · obtain ⟨h1, h2⟩ := erD_zero c0
      have hz := hs _ _ h2
      rw [if_neg (not_not_intro c0)] at h ⊢
      by_cases c4 : o.len < 0 ∨ ((dtD D o.num).size : Int) < o.len
      · rw [if_pos c4] at h; exact absurd h (by decide)
      · rw [if_neg c4]
        refine ⟨h1, fun d hd => ?_, ?_⟩
        · injection hd with hd
          rw [← hd, ByteArray.size_extract]; omega
        · rw [h2]
          exact pcO_grow (by rw [ByteArray.size_extract]; omega)
    · rw [if_pos c0] at h; exact absurd h c0
  rw [if_neg c3] at h ⊢
  unfold delD at h ⊢
  obtain ⟨h1, -⟩ := erD_zero h
  exact ⟨h1, fun d hd => (by cases hd), Nat.zero_le _⟩
section
variable {ops : Array Oper} {rest : List Oper} {o : Oper} {a : Act} {w : World} {Q : Exit → Act → World → Prop}
def Opn.zero : Opn := ⟨0, 0, ⟨#[]⟩, ⟨#[]⟩, 0, 0, 0⟩
theorem opn_len (p : Opn) : p.cs.toList.length = 7 := rfl
theorem load_op_off (hgd : o.guard = none) (x : Operand) (ho : o.op = .load 45 x) (g off : Nat) (i : Nat) (p : Opn) (hx : a.eval x = .pointer (some ⟨g, off + i * 7, none⟩)) (hr : w.rangeAt g (off + i * 7) p.cs.toList)
    (h : wpList Try.prog ops Q rest (a.put o.dst (.agg p.cs)) w) : wpList Try.prog ops Q (o :: rest) a w :=
  wpList_load_mid hgd 45 x ho g (off + i * 7) hx p.cs.toList _ hr Try.underlying45 rfl (by rw [opn_len]; kernel_rfl) (by simpa using h)
theorem load_op (hgd : o.guard = none) (x : Operand) (ho : o.op = .load 45 x) (g : Nat) (p : Opn) (hx : a.eval x = .pointer (some ⟨g, 0, none⟩)) (hb : Bk w g 45 p.cs)
    (h : wpList Try.prog ops Q rest (a.put o.dst (.agg p.cs)) w) : wpList Try.prog ops Q (o :: rest) a w :=
  wpList_load_mid hgd 45 x ho g 0 hx p.cs.toList _ (fun j v hv => by rw [Nat.zero_add, hb.cell]; simpa using hv) Try.underlying45 rfl (by rw [opn_len]; kernel_rfl) (by simpa using h)
theorem store_op_new (hgd : o.guard = none) (hd : o.dst = none) (x y : Operand) (ho : o.op = .store 45 x y) (i : Opn)
    (hx : a.eval x = .pointer (some ⟨w.heap.size, 0, none⟩)) (hy : a.eval y = .agg i.cs) (h : wpList Try.prog ops Q rest a (w.alloc (.cells i.cs 45))) : wpList Try.prog ops Q (o :: rest) a (w.alloc (.cells Opn.zero.cs 45)) := by
  refine wpList_store_row hgd 45 x y ho w.heap.size i.cs hx hy 45 Opn.zero.cs (Bk.new _ _ _) (by rw [show i.cs.size = 7 from rfl]; kernel_rfl) rfl (by simp [Opn.cs, Value.oneCell']) ?_
  rw [World.setRow_alloc_new, hd]
  exact h
end
set_option maxRecDepth 100000 in
set_option maxHeartbeats 8000000 in
theorem steps17 {w : World} {B g b gs r M : Nat} {D : Do} {m : Nat} (h : Od w B g b gs r M D m) (o : Opn) (hok : OpOk o) :
    Calls Try.prog 16 #[.pointer (some ⟨g, 0, none⟩), .agg o.cs] w (ChD w D o.num (opD D o)) := by
  have hb : Below w.heap.size w (w.alloc (.cells o.cs 45)) := (Below.refl _ _).alloc (Nat.le_refl _) _
  have V1 := Lib.hid (h.kept hb)
  have K1 := Lib.hid (Bk.new w 45 o.cs)
  have B1 := Lib.hid hb
  have OK := Lib.hid hok
  have LIFT := Lib.hid (show ∀ (x : Int × Option ByteArray) (e : Ending) (w' : World), opD D o = x → ChD (w.alloc (.cells o.cs 45)) D o.num x e w' → ChD w D o.num (opD D o) e w' from fun x e w' hx hc => by
    rw [hx]
    obtain ⟨v, h1, h2, h3, h4⟩ := hc
    exact ⟨v, h1, h2, fun h0 => ⟨(h3 h0).1, ow_mono (h3 h0).2 hb.size⟩, below_then hb h4 hb.size⟩)
  clear h hok hb
  have IO := Lib.hid (show (Value.agg o.cs) = .agg #[.int .i64 o.k, .int .i64 o.st, .string o.key, .string o.val, .int .i64 o.num, .int .i64 o.at_, .int .i64 o.len] from rfl)
  go_enter Try.func16, Try.ntmps16
  go_upto_region 1 with fail
  change Code.wp _ _ _ _ (w.alloc (.cells o.cs 45))
  obtain ⟨G, hG⟩ : ∃ G, G = w.heap.size := ⟨_, rfl⟩
  rw [← hG] at K1
  rw [← hG]
  clear hG B1
  generalize w.alloc (.cells o.cs 45) = w1 at *
  have x0 : w1.cell? ⟨G, 0, none⟩ = some (.int .i64 o.k) := K1.out.cell 0
  have x3 : w1.cell? ⟨G, 3, none⟩ = some (.string o.val) := K1.out.cell 3
  have x4 : w1.cell? ⟨G, 4, none⟩ = some (.int .i64 o.num) := K1.out.cell 4
  have x5 : w1.cell? ⟨G, 5, none⟩ = some (.int .i64 o.at_) := K1.out.cell 5
  have x6 : w1.cell? ⟨G, 6, none⟩ = some (.int .i64 o.len) := K1.out.cell 6
  have CN := Lib.hid (bnew_any V1.out o.num)
  have CW := Lib.hid (bwrite_any V1.out o.num o.at_ o.val OK.out.val)
  have CC := Lib.hid (bcut_any V1.out o.num o.len)
  have CD := Lib.hid (bdel_any V1.out o.num)
  obtain ⟨kk, hkk⟩ : ∃ kk, kk = o.k := ⟨_, rfl⟩
  rw [← hkk] at x0
  by_cases c1 : kk = 18
  · subst c1
    have E := Lib.hid (show opD D o = newD D o.num by unfold opD; rw [if_pos hkk.symm])
    clear hkk
    as_aux_lemma =>
      go_wp2_with fail
      refine CN.out.mono ?_
      rintro e w2 hc
      have F1 := LIFT.out _ e w2 E.out hc
      obtain ⟨v, rfl, -⟩ := hc
      have F2 := Lib.hid F1
      clear F1 LIFT CN CW CC CD V1
      go_wp2
      refine bodyPost_ret (v := .tuple #[v, .int .i64 (newD D o.num).1]) (by simp [results, Try.results16, go_sem]) rfl ?_
      exact F2.out
  have c1b : (kk == 18) = false := by simp [c1]
  by_cases c2 : kk = 21
  · subst c2
    have E := Lib.hid (show opD D o = wrD D o.num o.at_ o.val by unfold opD; rw [← hkk]; rfl)
    clear hkk c1
    as_aux_lemma =>
      go_wp2_with fail
      refine CW.out.mono ?_
      rintro e w2 hc
      have F1 := LIFT.out _ e w2 E.out hc
      obtain ⟨v, rfl, -⟩ := hc
      have F2 := Lib.hid F1
      clear F1 LIFT CN CW CC CD V1
      go_wp2
      refine bodyPost_ret (v := .tuple #[v, .int .i64 (wrD D o.num o.at_ o.val).1]) (by simp [results, Try.results16, go_sem]) rfl ?_
      exact F2.out
  have c2b : (kk == 21) = false := by simp [c2]
  by_cases c3 : kk = 22
  · subst c3
    have E := Lib.hid (show opD D o = cutD D o.num o.len by unfold opD; rw [← hkk]; rfl)
    clear hkk c1 c2
    as_aux_lemma =>
      go_wp2_with fail
      refine CC.out.mono ?_
      rintro e w2 hc
      have F1 := LIFT.out _ e w2 E.out hc
      obtain ⟨v, rfl, -⟩ := hc
      have F2 := Lib.hid F1
      clear F1 LIFT CN CW CC CD V1
      go_wp2
      refine bodyPost_ret (v := .tuple #[v, .int .i64 (cutD D o.num o.len).1]) (by simp [results, Try.results16, go_sem]) rfl ?_
      exact F2.out
  have c3b : (kk == 22) = false := by simp [c3]
  have E := Lib.hid (show opD D o = delD D o.num by unfold opD; rw [if_neg (by rw [← hkk]; exact c1), if_neg (by rw [← hkk]; exact c2), if_neg (by rw [← hkk]; exact c3)])
  clear hkk
  as_aux_lemma =>
    go_wp2_with fail
    refine CD.out.mono ?_
    rintro e w2 hc
    have F1 := LIFT.out _ e w2 E.out hc
    obtain ⟨v, rfl, -⟩ := hc
    have F2 := Lib.hid F1
    clear F1 LIFT CN CW CC CD V1
    go_wp2
    refine bodyPost_ret (v := .tuple #[v, .int .i64 (delD D o.num).1]) (by simp [results, Try.results16, go_sem]) rfl ?_
    exact F2.out
theorem setD_ne {D : Do} {n k : Int} {o : Option ByteArray} (h : k ≠ n) : setD D n o k = D k := if_neg h
theorem rd_all {D : Do} {num : Int} {d : ByteArray} (hok : okN num) (hd : D num = some d) : rdD D num 0 d.size = (d, 0) := by
  have h := rd_part hok hd 0 d.size (by omega)
  rw [show ((0 : Nat) : Int) = 0 from rfl] at h
  rw [h, Nat.zero_add, ext_all]
theorem wr_first {num : Int} {val : ByteArray} (hok : okN num) (hv : val.size ≤ 64) : wrD (D5 num ⟨#[]⟩) num 0 val = (0, some val) := by
  have h := wr_end (val := val) hok (D5_at num ⟨#[]⟩) hv (by show 0 + val.size ≤ 4096; omega)
  rw [show (((⟨#[]⟩ : ByteArray).size : Nat) : Int) = 0 from rfl] at h
  rw [h]
  congr 2
/-- Is an operation passed over? -/
def skipO (o : Opn) : Bool := decide (o.num = 500) || !(decide (o.k = 18) || decide (o.k = 21) || decide (o.k = 22) || decide (o.k = 23))
set_option maxRecDepth 100000 in
set_option maxHeartbeats 24000000 in
theorem walk_LobApart (v : Value) (os : List Opn) (mine : ByteArray) (w : World) (h : OpsIn w v os) (hmine : mine.size ≤ maxLen) :
    Calls Try.prog 5 #[v, .string mine] w fun e w' => e = .returned (.bool true) ∧ Below w.heap.size w w' := by
  have P0 := Lib.hid h
  obtain ⟨oa, oc, rfl, -⟩ := h.at_
  obtain ⟨ol, hol⟩ : ∃ ol, ol = os.length := ⟨_, rfl⟩
  have OL := Lib.hid (show ol = os.length ∧ ol ≤ maxLen from ⟨hol, by rw [hol]; exact h.len⟩)
  rw [← hol] at P0 ⊢
  have CA := Lib.hid (awake17 w)
  have mz9 : mine.size ≤ 9223372036854775807 := by unfold maxLen at hmine; omega
  have MZ := Lib.hid hmine
  clear h hol hmine
  go_enter Try.func5, Try.ntmps5
  go_wp2_with fail
  refine CA.out.mono ?_
  rintro e w1 ⟨rfl, hb⟩
  have B1 := Lib.hid hb
  have P1 := Lib.hid (P0.out.kept hb)
  have CV := Lib.hid (volume17 w1)
  have SZ := Lib.hid hb.size
  clear hb CA P0
  as_aux_lemma =>
    go_wp2_with fail
    refine CV.out.mono ?_
    rintro e w2 ⟨g, b, gs, r, rfl, hv, hb⟩
    have V2 := Lib.hid hv; have B2 := Lib.hid hb
    have BG := Lib.hid (show w1.heap.size ≤ b from hv.lo.b_ge)
    clear hv hb CV
    have p9 : ol ≤ 9223372036854775807 := by have := OL.out.2; unfold maxLen at this; omega
    by_cases c40 : (40 : Int) < (ol : Int)
    · as_aux_lemma =>
        go_wp2
        go_ret
        exact ⟨rfl, B1.out.trans (B2.out.mono SZ.out)⟩
    have c40n : ¬ 40 < ol := by omega
    by_cases c64 : (64 : Int) < (mine.size : Int)
    · as_aux_lemma =>
        go_wp2
        go_ret
        exact ⟨rfl, B1.out.trans (B2.out.mono SZ.out)⟩
    have c64n : ¬ 64 < mine.size := by omega
    have P40 := Lib.hid (show ol ≤ 40 ∧ mine.size ≤ 64 by omega)
    have CN := Lib.hid (bnew_any V2.out 500)
    as_aux_lemma =>
      go_wp2_with fail
      refine CN.out.mono ?_
      rintro e w3 ⟨nv, rfl, -, h2, hb⟩
      clear c40 c40n c64 c64n
      have e0 := new_empty (fun _ => none) 500 (by decide) rfl
      obtain ⟨-, ho⟩ := h2 (by rw [e0])
      rw [e0] at ho ⊢
      have V3 := Lib.hid (V2.out.kept hb); have B3 := Lib.hid (below_then B2.out hb B2.out.size)
      have CL2 := Lib.hid (new_land V3.out 500 (by decide) nv w2.heap.size ho V2.out.lo.ne.2.1 (by decide) (by decide))
      clear e0 ho h2 hb CN V2 B2
      as_aux_lemma =>
        go_wp2_with fail
        refine CL2.out.mono ?_
        rintro e w4 ⟨rfl, hv, hg⟩
        have V4 := Lib.hid hv; have B4 := Lib.hid (bl_grow B3.out hg (fun k hk => by cases hk; exact BG.out) B3.out.size)
        have CW := Lib.hid (bwrite_any V4.out 500 0 mine MZ.out)
        clear hv hg CL2 V3 B3
        as_aux_lemma =>
          go_wp2_with fail
          refine CW.out.mono ?_
          rintro e w5 ⟨sv, rfl, -, h2, hb⟩
          have e0 := wr_first (num := 500) (by decide) P40.out.2
          obtain ⟨-, ho⟩ := h2 (by rw [e0])
          rw [e0] at ho ⊢
          have V5 := Lib.hid (V4.out.kept hb); have B5 := Lib.hid (below_then B4.out hb B4.out.size)
          have CLD := ch_land V5.out 500 (by decide) (some mine) (fun x hx => by injection hx with hx; rw [← hx]; have := P40.out; omega) sv w4.heap.size ho V4.out.lo.ne.2.1 (by decide) 4 (by rw [D5_at]; exact pcO_grow (by have := P40.out; show mine.size ≤ 0 + 64; omega)) (by decide)
          rw [D5_set] at CLD
          have CLD := Lib.hid CLD
          clear e0 ho h2 hb CW V4 B4
          as_aux_lemma =>
            go_wp2_with fail
            refine CLD.out.mono ?_
            rintro e w6 ⟨rfl, hv, hg⟩
            have V6 := Lib.hid hv; have B6 := Lib.hid (bl_grow B5.out hg (fun k hk => by cases hk; exact BG.out) B5.out.size)
            clear hv hg CLD V5 B5
            as_aux_lemma =>
              go_upto_region 13 with fail
              go_loopw [64] (fun iv wr => ∃ (k M m : Nat) (D : Do), iv = .int .i64 k ∧ k ≤ ol ∧ M ≤ 20485 + 10240 * k ∧ m ≤ 6 + 4 * k ∧ D 500 = some mine ∧ Od wr w1.heap.size g b gs r M D m ∧ Below w1.heap.size w1 wr) (fun iv _ => ol - (RowKit.intOf iv).toNat)
              case atStart => exact ⟨0, _, _, _, rfl, Nat.zero_le _, Nat.le_refl _, Nat.le_refl _, D5_at 500 mine, V6.out, B6.out⟩
              case round =>
                clear V6 B6
                obtain ⟨k, M, m, D, rfl, hk, hM, hm, hd, hv, hb⟩ := hrel
                have V := Lib.hid hv; have BW := Lib.hid hb; have HD := Lib.hid hd
                have N := Lib.hid (show k ≤ ol ∧ M ≤ 20485 + 10240 * k ∧ m ≤ 6 + 4 * k from ⟨hk, hM, hm⟩)
                clear hM hm hd hk
                by_cases hlt : k < ol
                · have HLT := Lib.hid hlt
                  have hlti : (k : Int) < (ol : Int) := by omega
                  have kb : k < 9223372036854775807 := by omega
                  obtain ⟨o, ho⟩ : ∃ o, os[k]? = some o := ⟨_, List.getElem?_eq_getElem (by rw [← OL.out.1]; exact hlt)⟩
                  have OK := Lib.hid ((P1.out.kept hb).bd o (List.mem_of_getElem? ho))
                  obtain ⟨ob, ooff, rfl, hro⟩ : ∃ ob ooff, oa = some (⟨ob, ooff, none⟩ : Addr) ∧ wr.rangeAt ob (ooff + k * 7) o.cs.toList := by
                    obtain ⟨a', c', e1, hc⟩ := (P1.out.kept hb).at_
                    obtain ⟨b', off, e2, -, e3⟩ := hc (by rw [← OL.out.1]; omega)
                    injection e1 with e1
                    exact ⟨b', off, by rw [e1]; exact e2, e3 k o ho⟩
                  have RO := Lib.hid hro
                  have V7 := Lib.hid (hv.kept ((Below.refl wr.heap.size wr).alloc (Nat.le_refl _) (.cells o.cs 45)))
                  have B7 := Lib.hid (hb.alloc hb.size (.cells o.cs 45))
                  have K7 := Lib.hid (Bk.new wr 45 o.cs)
                  clear ho hro hv hb hlt V BW
                  as_aux_lemma =>
                    go_upto_region 15 with (first | (refine load_op_off rfl _ rfl ob ooff k o rfl RO.out ?_) | (refine store_op_new rfl rfl _ _ rfl o rfl rfl ?_))
                    obtain ⟨G, hG⟩ : ∃ G, G = wr.heap.size := ⟨_, rfl⟩
                    rw [← hG] at K7 ⊢
                    clear hG RO
                    generalize wr.alloc (.cells o.cs 45) = w7 at *
                    have x0 : w7.cell? ⟨G, 0, none⟩ = some (.int .i64 o.k) := K7.out.cell 0
                    have x4 : w7.cell? ⟨G, 4, none⟩ = some (.int .i64 o.num) := K7.out.cell 4
                    go_cut [90] (fun s90 wx => s90 = .bool (skipO o) ∧ wx = w7)
                    case first =>
                      by_cases en : o.num = 500
                      · have SK := Lib.hid (show skipO o = true by unfold skipO; simp [en])
                        have enb : (o.num == 500) = true := by simp [en]
                        clear en
                        go_wp2
                        go_meet
                        exact ⟨by rw [SK.out], rfl⟩
                      have enb : (o.num == 500) = false := by simp [en]
                      by_cases k1 : o.k = 18
                      · have SK := Lib.hid (show skipO o = false by unfold skipO; simp [en, k1])
                        rw [k1] at x0
                        clear en k1
                        go_wp2
                        go_meet
                        exact ⟨by rw [SK.out], rfl⟩
                      by_cases k2 : o.k = 21
                      · have SK := Lib.hid (show skipO o = false by unfold skipO; simp [en, k2])
                        rw [k2] at x0
                        clear en k1 k2
                        go_wp2
                        go_meet
                        exact ⟨by rw [SK.out], rfl⟩
                      by_cases k3 : o.k = 22
                      · have SK := Lib.hid (show skipO o = false by unfold skipO; simp [en, k3])
                        rw [k3] at x0
                        clear en k1 k2 k3
                        go_wp2
                        go_meet
                        exact ⟨by rw [SK.out], rfl⟩
                      by_cases k4 : o.k = 23
                      · have SK := Lib.hid (show skipO o = false by unfold skipO; simp [en, k4])
                        rw [k4] at x0
                        clear en k1 k2 k3 k4
                        go_wp2
                        go_meet
                        exact ⟨by rw [SK.out], rfl⟩
                      · have SK := Lib.hid (show skipO o = true by unfold skipO; simp [k1, k2, k3, k4])
                        have b1 : (o.k == 18) = false := by simp [k1]
                        have b2 : (o.k == 21) = false := by simp [k2]
                        have b3 : (o.k == 22) = false := by simp [k3]
                        have b4 : (o.k == 23) = false := by simp [k4]
                        have n1 : (o.k != 18) = true := by simp [k1]
                        have n2 : (o.k != 21) = true := by simp [k2]
                        have n3 : (o.k != 22) = true := by simp [k3]
                        have n4 : (o.k != 23) = true := by simp [k4]
                        clear en k1 k2 k3 k4
                        go_wp2
                        go_meet
                        exact ⟨by rw [SK.out], rfl⟩
                    case rest =>
                      obtain ⟨rfl, hw7⟩ := hcut
                      rw [hw7]
                      clear hw7
                      have SKE := Lib.hid (show skipO o = false → o.num ≠ 500 from fun h e => by unfold skipO at h; simp [e] at h)
                      generalize skipO o = sk at *
                      cases sk with
                      | true =>
                        as_aux_lemma =>
                          go_wp2
                          go_roundw
                          case rel => exact ⟨k + 1, M, m, D, by push_cast; rfl, by have := HLT.out; omega, by have := N.out; omega, by have := N.out; omega, HD.out, V7.out, B7.out⟩
                          case measure => have := HLT.out; simp [RowKit.intOf]; omega
                      | false =>
                        have CS := Lib.hid (steps17 V7.out o OK.out)
                        clear x0 x4
                        as_aux_lemma =>
                          go_wp2_with (refine load_op rfl _ rfl G o rfl K7.out ?_)
                          refine CS.out.mono ?_
                          rintro e w8 ⟨sv2, rfl, -, h2, hb⟩
                          have V8 := Lib.hid (V7.out.kept hb); have B8 := Lib.hid (below_then B7.out hb B7.out.size)
                          have TAIL := Lib.hid (True.intro)
                          by_cases e0 : (opD D o).1 = 0
                          · obtain ⟨hok, ho⟩ := h2 e0
                            obtain ⟨-, o1, o2⟩ := opD_ok V8.out.sz o e0
                            rw [e0]
                            have CLD := Lib.hid (ch_land V8.out o.num hok (opD D o).2 o1 sv2 w7.heap.size ho V7.out.lo.ne.2.1 (by have := N.out; have := P40.out; omega) 4 o2 (by have := N.out; have := P40.out; omega))
                            have HD2 := Lib.hid (show setD D o.num (opD D o).2 500 = some mine by rw [setD_ne (fun h => SKE.out (by first | rfl | trivial) h.symm)]; exact HD.out)
                            generalize setD D o.num (opD D o).2 = D2 at *
                            clear ho h2 hb V7 o1 o2 e0 CS
                            as_aux_lemma =>
                              go_wp2_with fail
                              refine CLD.out.mono ?_
                              rintro e w9 ⟨rfl, hv, hg⟩
                              have V9 := Lib.hid hv; have B9 := Lib.hid (bl_grow B8.out hg (fun k hk => by cases hk; exact BG.out) B8.out.size)
                              have CR := bread_any V9.out 500 0 mine.size
                              rw [rd_all (by decide) HD2.out] at CR
                              have CR := Lib.hid CR
                              clear hv hg CLD V8 B8 B7
                              as_aux_lemma =>
                                go_wp2_with fail
                                refine CR.out.mono ?_
                                rintro e w10 ⟨rfl, hb⟩
                                have V10 := Lib.hid (V9.out.kept hb); have B10 := Lib.hid (below_then B9.out hb B9.out.size)
                                have es : (mine.toList == mine.toList) = true := by simp
                                clear hb CR V9 B9
                                go_wp2
                                go_roundw
                                case rel => exact ⟨k + 1, M + 10240, m + 4, D2, by push_cast; rfl, by have := HLT.out; omega, by have := N.out; omega, by have := N.out; omega, HD2.out, V10.out, B10.out⟩
                                case measure => have := HLT.out; simp [RowKit.intOf]; omega
                          · have e0b : ((opD D o).1 == 0) = false := by simp [e0]
                            have CR := bread_any V8.out 500 0 mine.size
                            rw [rd_all (by decide) HD.out] at CR
                            have CR := Lib.hid CR
                            generalize (opD D o).1 = er at *
                            clear h2 hb V7 B7 e0 CS
                            as_aux_lemma =>
                              go_wp2_with fail
                              refine CR.out.mono ?_
                              rintro e w10 ⟨rfl, hb⟩
                              have V10 := Lib.hid (V8.out.kept hb); have B10 := Lib.hid (below_then B8.out hb B8.out.size)
                              have es : (mine.toList == mine.toList) = true := by simp
                              clear hb CR V8 B8
                              go_wp2
                              go_roundw
                              case rel => exact ⟨k + 1, M, m, D, by push_cast; rfl, by have := HLT.out; omega, by have := N.out; omega, by have := N.out; omega, HD.out, V10.out, B10.out⟩
                              case measure => have := HLT.out; simp [RowKit.intOf]; omega
                · obtain rfl : k = ol := by have := N.out; omega
                  have hni : ¬ (k : Int) < (k : Int) := by omega
                  have CE := blen_any V.out 500
                  rw [(er_yes (by decide) HD.out).1, (er_yes (by decide) HD.out).2] at CE
                  have CE := Lib.hid CE
                  clear hlt hv hb
                  as_aux_lemma =>
                    go_wp2_with fail
                    refine CE.out.mono ?_
                    rintro e w6 ⟨rfl, hb⟩
                    have B6 := Lib.hid (below_then BW.out hb BW.out.size)
                    clear hb CE V BW
                    go_wp2
                    go_ret
                    exact ⟨rfl, B1.out.trans (B6.out.mono SZ.out)⟩
end Go.Proofs.Ytaiiimlmkigajaa
namespace Go.Proofs.Ytaiiimlmkigajaa
open Go.RowKit Go.Maps Go.ChangeShapes Go.WideShapes Go.ChangeAt Go.Deep

section
variable {ops : Array Oper} {rest : List Oper} {o : Oper} {a : Act} {w : World} {Q : Exit → Act → World → Prop}
theorem load_lst_off (hgd : o.guard = none) (x : Operand) (ho : o.op = .load 49 x) (g i : Nat) (num : Int) (s : St) (hx : a.eval x = .pointer (some ⟨g, i * 3, none⟩)) (hr : w.rangeAt g (i * 3) (stC num s).toList)
    (h : wpList Try.prog ops Q rest (a.put o.dst (.agg (stC num s))) w) : wpList Try.prog ops Q (o :: rest) a w :=
  wpList_load_mid hgd 49 x ho g (i * 3) hx (stC num s).toList _ hr Try.underlying49 rfl (by rw [show (stC num s).toList.length = 3 from rfl]; kernel_rfl) (by simpa using h)
theorem store_lst_new (hgd : o.guard = none) (hd : o.dst = none) (x y : Operand) (ho : o.op = .store 49 x y) (num : Int) (s : St)
    (hx : a.eval x = .pointer (some ⟨w.heap.size, 0, none⟩)) (hy : a.eval y = .agg (stC num s)) (h : wpList Try.prog ops Q rest a (w.alloc (.cells (stC num s) 49))) : wpList Try.prog ops Q (o :: rest) a (w.alloc (.cells #[.int .i64 0, .string ⟨#[]⟩, .string ⟨#[]⟩] 49)) := by
  refine wpList_store_row hgd 49 x y ho w.heap.size (stC num s) hx hy 49 #[.int .i64 0, .string ⟨#[]⟩, .string ⟨#[]⟩] (Bk.new _ _ _) (by rw [show (stC num s).size = 3 from rfl]; kernel_rfl) rfl (by simp [stC, Value.oneCell']) ?_
  rw [World.setRow_alloc_new, hd]
  exact h
end
theorem stepL_v (frm tos : List ByteArray) (h16 : ∀ v, v ∈ tos → v.size ≤ 16) : ∀ n s, s ∈ stepL frm tos n → s.val.size ≤ 16 ∧ (s.k = 16 → s.val = ⟨#[]⟩)
  | 0, s, h => by cases h
  | n + 1, s, h => by
    rw [stepL_succ] at h
    rcases List.mem_append.1 h with h | h
    · exact stepL_v frm tos h16 n s h
    · unfold stepAt at h
      by_cases c1 : tos.length ≤ n
      · rw [if_pos c1] at h; rw [List.mem_singleton.1 h]; exact ⟨Nat.zero_le _, fun _ => rfl⟩
      rw [if_neg c1] at h
      have m16 : (tos.getD n ⟨#[]⟩).size ≤ 16 := h16 _ (by rw [List.getD_eq_getElem?_getD, List.getElem?_eq_getElem (by omega)]; exact List.getElem_mem _)
      by_cases c2 : frm.length ≤ n
      · rw [if_pos c2] at h; rw [List.mem_singleton.1 h]; exact ⟨m16, fun h => absurd (show (13 : Int) = 16 from h) (by decide)⟩
      rw [if_neg c2] at h
      by_cases c3 : frm.getD n ⟨#[]⟩ = tos.getD n ⟨#[]⟩
      · rw [if_pos c3] at h; cases h
      · rw [if_neg c3] at h; rw [List.mem_singleton.1 h]; exact ⟨m16, fun h => absurd (show (15 : Int) = 16 from h) (by decide)⟩
theorem key2 (i : Int) : (lkey 9 i).extract 0 2 = ⟨#[0, 9]⟩ := by
  refine ba_list ?_
  rw [ext_list]
  rfl
theorem key_num (i : Nat) (hi : i < 65536) {K : ByteArray} (hK : K = lkey 9 i) (h2 : 2 < K.size) (h3 : 3 < K.size) : wrap64 (wrap64 (wrap64 ((K[2]'h2).toNat : Int) * 256) + wrap64 ((K[3]'h3).toNat : Int)) = (i : Int) := by
  subst hK
  have e2 : ((lkey 9 (i : Int))[2]'h2).toNat = (((i : Int) / 256) % 256).toNat := by8_nat _
  have e3 : ((lkey 9 (i : Int))[3]'h3).toNat = ((i : Int) % 256).toNat := by8_nat _
  rw [e2, e3]
  unfold wrap64
  omega
theorem Lo.row_ne {w : World} {B g b gs r M : Nat} {F : Fo} {m : Nat} (h : Lo w B g b gs r M F m) {k : Nat} {t : TypeId} {cs : Array Value} (hk : Bk w k t cs) (h1 : t ≠ 81) (h2 : t ≠ 76) (h3 : k < B) : k ≠ g ∧ k ≠ b ∧ k ≠ gs ∧ k ≠ r := by
  obtain ⟨und, pg, H, ow, lf, ids, kd, R, hs, -⟩ := h.ex
  exact hs.row_ne hk h1 h2 (by have := hs.r_ge; omega)
/-- The steps from one on are for pieces behind a piece. -/
def Rise (ss : List St) (t : Nat) (ls : Int) : Prop := ∀ s, ss[t]? = some s → ls < s.i
theorem Rise.next {ss : List St} (hp : ss.Pairwise fun a b => a.i < b.i) {t : Nat} {s : St} (hs : ss[t]? = some s) : Rise ss (t + 1) s.i := fun s' hs' => by
  obtain ⟨h1, e1⟩ := List.getElem?_eq_some_iff.1 hs
  obtain ⟨h2, e2⟩ := List.getElem?_eq_some_iff.1 hs'
  have := List.pairwise_iff_getElem.1 hp t (t + 1) h1 h2 (Nat.lt_succ_self t)
  rw [e1, e2] at this
  omega
set_option maxRecDepth 100000 in
set_option maxHeartbeats 24000000 in
theorem walk_LobSteps (first : ByteArray) (v : Value) (o : Opn) (w : World) (hfirst : first.size ≤ maxLen) (h : v = .agg o.cs ∧ OpOk o) :
    Calls Try.prog 6 #[.string first, v] w fun e w' => e = .returned (.bool true) ∧ Below w.heap.size w w' := by
  obtain ⟨rfl, hok⟩ := h
  have OK := Lib.hid hok
  have mz9 : first.size ≤ 9223372036854775807 := by unfold maxLen at hfirst; omega
  have MZ := Lib.hid hfirst
  have K0 := Lib.hid (Bk.new w 45 o.cs)
  have B0 := Lib.hid ((Below.refl w.heap.size w).alloc (Nat.le_refl _) (.cells o.cs 45))
  clear hok hfirst
  go_enter Try.func6, Try.ntmps6
  go_upto_region 1 with fail
  change Code.wp _ _ _ _ (w.alloc (.cells o.cs 45))
  obtain ⟨G, hG⟩ : ∃ G, G = w.heap.size := ⟨_, rfl⟩
  have GH := Lib.hid hG
  rw [← hG] at K0 ⊢
  clear hG
  generalize w.alloc (.cells o.cs 45) = w0 at *
  have CA := Lib.hid (awake17 w0)
  as_aux_lemma =>
  go_wp2_with fail
  refine CA.out.mono ?_
  rintro e w1 ⟨rfl, hb⟩
  have B1 := Lib.hid (below_then B0.out hb B0.out.size)
  have K1 := Lib.hid (K0.out.kept hb)
  have CV := Lib.hid (volume17 w1)
  have GL := Lib.hid (show G < w1.heap.size from K1.out.lt)
  clear hb CA K0 B0
  as_aux_lemma =>
    go_wp2_with fail
    refine CV.out.mono ?_
    rintro e w2 ⟨g, b, gs, r, rfl, hv, hb⟩
    have V2 := Lib.hid hv; have B2 := Lib.hid hb
    have BG := Lib.hid (show w1.heap.size ≤ b from hv.lo.b_ge)
    have K2 := Lib.hid (K1.out.kept hb)
    clear hv hb CV K1
    by_cases c64 : (64 : Int) < (first.size : Int)
    · as_aux_lemma =>
        go_wp2
        go_ret
        exact ⟨rfl, B1.out.trans (B2.out.mono B1.out.size)⟩
    have c64n : ¬ 64 < first.size := by omega
    have P40 := Lib.hid (show first.size ≤ 64 by omega)
    have CN := Lib.hid (bnew_any V2.out 9)
    as_aux_lemma =>
      go_wp2_with fail
      refine CN.out.mono ?_
      rintro e w3 ⟨nv, rfl, -, h2, hb⟩
      clear c64 c64n
      have e0 := new_empty (fun _ => none) 9 (by decide) rfl
      obtain ⟨-, ho⟩ := h2 (by rw [e0])
      rw [e0] at ho ⊢
      have V3 := Lib.hid (V2.out.kept hb); have B3 := Lib.hid (below_then B2.out hb B2.out.size); have K3 := Lib.hid (K2.out.kept hb)
      have CL2 := Lib.hid (new_land V3.out 9 (by decide) nv w2.heap.size ho V2.out.lo.ne.2.1 (by decide) (by decide))
      clear e0 ho h2 hb CN V2 B2 K2
      as_aux_lemma =>
        go_wp2_with fail
        refine CL2.out.mono ?_
        rintro e w4 ⟨rfl, hv, hg⟩
        have V4 := Lib.hid hv; have B4 := Lib.hid (bl_grow B3.out hg (fun k hk => by cases hk; exact BG.out) B3.out.size)
        have K4 := Lib.hid (K3.out.grown hg (fun e => by have := BG.out; have := GL.out; injection e with e; omega))
        have CW := Lib.hid (bwrite_any V4.out 9 0 first MZ.out)
        clear hv hg CL2 V3 B3 K3
        as_aux_lemma =>
          go_wp2_with fail
          refine CW.out.mono ?_
          rintro e w5 ⟨sv, rfl, -, h2, hb⟩
          have e0 := wr_first (num := 9) (by decide) P40.out
          obtain ⟨-, ho⟩ := h2 (by rw [e0])
          rw [e0] at ho ⊢
          have V5 := Lib.hid (V4.out.kept hb); have B5 := Lib.hid (below_then B4.out hb B4.out.size); have K5 := Lib.hid (K4.out.kept hb)
          have CLD := ch_land V5.out 9 (by decide) (some first) (fun x hx => by injection hx with hx; rw [← hx]; have := P40.out; omega) sv w4.heap.size ho V4.out.lo.ne.2.1 (by decide) 4 (by rw [D5_at]; exact pcO_grow (by have := P40.out; show first.size ≤ 0 + 64; omega)) (by decide)
          rw [D5_set] at CLD
          have CLD := Lib.hid CLD
          clear e0 ho h2 hb CW V4 B4 K4
          as_aux_lemma =>
            go_wp2_with fail
            refine CLD.out.mono ?_
            rintro e w6 ⟨rfl, hv, hg⟩
            have V6 := Lib.hid hv; have B6 := Lib.hid (bl_grow B5.out hg (fun k hk => by cases hk; exact BG.out) B5.out.size)
            have K6 := Lib.hid (K5.out.grown hg (fun e => by have := BG.out; have := GL.out; injection e with e; omega))
            clear hv hg CLD V5 B5 K5
            as_aux_lemma =>
              go_upto_region 12 with fail
              have y0 : w6.cell? ⟨G, 0, none⟩ = some (.int .i64 o.k) := K6.out.cell 0
              have y4 : w6.cell? ⟨G, 4, none⟩ = some (.int .i64 o.num) := K6.out.cell 4
              have f4 : w6.frozen? ⟨G, 4, none⟩ = false := K6.out.fz 4
              have K7 := Lib.hid (show Bk (w6.setCell ⟨G, 4, none⟩ (.int .i64 9)) G 45 (Opn.mk o.k o.st o.key o.val 9 o.at_ o.len).cs from K6.out.set 4 (.int .i64 9))
              have G7 := Lib.hid (only_cell' w6 G 4 (.int .i64 9))
              go_upto_region 13 with fail
              clear y0 y4 f4
              have y0 : (w6.setCell ⟨G, 4, none⟩ (.int .i64 9)).cell? ⟨G, 0, none⟩ = some (.int .i64 o.k) := K7.out.cell 0
              generalize w6.setCell ⟨G, 4, none⟩ (.int .i64 9) = w7 at *
              have f0 : w7.frozen? ⟨G, 0, none⟩ = false := K7.out.fz 0
              obtain ⟨kk, hkk⟩ : ∃ kk, kk = o.k := ⟨_, rfl⟩
              rw [← hkk] at y0 K7
              clear hkk
              go_upto_block 0 with fail
              go_cut [] (fun wx => ∃ kq, Bk wx G 45 (Opn.mk kq o.st o.key o.val 9 o.at_ o.len).cs ∧ w6.grownBy wx (some G))
              case first =>
                --@Vfirst
                by_cases k1 : kk = 21
                · subst k1
                  have FIN := Lib.hid (And.intro K7.out G7.out)
                  clear K7 G7
                  go_wp2
                  go_meet
                  exact ⟨_, FIN.out⟩
                have b1 : (kk == 21) = false := by simp [k1]
                by_cases k2 : kk = 22
                · subst k2
                  have FIN := Lib.hid (And.intro K7.out G7.out)
                  clear K7 G7
                  go_wp2
                  go_meet
                  exact ⟨_, FIN.out⟩
                have b2 : (kk == 22) = false := by simp [k2]
                by_cases k3 : kk = 23
                · subst k3
                  have FIN := Lib.hid (And.intro K7.out G7.out)
                  clear K7 G7
                  go_wp2
                  go_meet
                  exact ⟨_, FIN.out⟩
                have b3 : (kk == 23) = false := by simp [k3]
                have FIN := Lib.hid (show Bk (w7.setCell ⟨G, 0, none⟩ (.int .i64 21)) G 45 (Opn.mk 21 o.st o.key o.val 9 o.at_ o.len).cs ∧ w6.grownBy (w7.setCell ⟨G, 0, none⟩ (.int .i64 21)) (some G) from ⟨K7.out.set 0 (.int .i64 21), only_set G7.out 0 (.int .i64 21)⟩)
                clear K7 G7 k1 k2 k3
                go_wp2
                go_meet
                exact ⟨_, FIN.out⟩
              case rest =>
                --@Vrest
                obtain ⟨kq, hk8, hg8⟩ := hcut
                generalize wc = w8 at *
                have V8 := Lib.hid (show Od w8 w1.heap.size g b gs r (5 + 10240 + 10240) (D5 9 first) (1 + 1 + 4) from ⟨V6.out.lo.grown hg8 (fun k hk => by cases hk; exact V6.out.lo.row_ne K6.out (by decide) (by decide) GL.out), V6.out.sz⟩)
                have B8 := Lib.hid (show Below w.heap.size w w8 from bl_grow (B1.out.trans (B6.out.mono B1.out.size)) hg8 (fun k hk => by cases hk; exact Nat.le_of_eq GH.out.symm) (Nat.le_trans B1.out.size B6.out.size))
                have K8 := Lib.hid hk8
                obtain ⟨o2, ho2⟩ : ∃ o2, o2 = Opn.mk kq o.st o.key o.val 9 o.at_ o.len := ⟨_, rfl⟩
                have ON := Lib.hid (show o2.num = 9 by rw [ho2])
                have OK2 := Lib.hid (show OpOk o2 by rw [ho2]; exact ⟨OK.out.val, OK.out.key, show in64 9 from ⟨by decide, by decide⟩, OK.out.at_, OK.out.len⟩)
                rw [← ho2] at K8
                have CS := Lib.hid (steps17 V8.out o2 OK2.out)
                clear hk8 hg8 ho2 K6 V6 B6 K7 G7
                as_aux_lemma =>
                  go_wp2_with (refine load_op rfl _ rfl G o2 rfl K8.out ?_)
                  refine CS.out.mono ?_
                  rintro e w9 ⟨nv2, rfl, h1, h2, hb⟩
                  have V9 := Lib.hid (V8.out.kept hb); have B9 := Lib.hid (below_then B8.out hb B8.out.size)
                  by_cases e0 : (opD (D5 9 first) o2).1 = 0
                  · obtain ⟨hok, ho⟩ := h2 e0
                    obtain ⟨-, o1, o2'⟩ := opD_ok V9.out.sz o2 e0
                    rw [e0]
                    obtain ⟨x2, hx2⟩ : ∃ x2, x2 = (opD (D5 9 first) o2).2 := ⟨_, rfl⟩
                    rw [← hx2] at ho o1 o2'
                    rw [ON.out] at ho o2' hok
                    obtain ⟨ss, hss⟩ : ∃ ss, ss = stepL (pcO (D5 9 first 9)) (pcO x2) (max (pcO (D5 9 first 9)).length (pcO x2).length) := ⟨_, rfl⟩
                    have CLD := fun (wz : World) (hz : Od wz w1.heap.size g b gs r (5 + 10240 + 10240) (D5 9 first) (1 + 1 + 4)) (hw : StOwn wz w8.heap.size nv2 9 ss) => ch_land hz 9 hok x2 o1 nv2 w8.heap.size (by rw [hss] at hw; exact hw) V8.out.lo.ne.2.1 (by decide) 4 o2' (by decide)
                    have SV := Lib.hid (show ∀ s, s ∈ ss → s.val.size ≤ 16 ∧ (s.k = 16 → s.val = ⟨#[]⟩) ∧ s.i < 65536 from fun s hs => by
                      rw [hss] at hs
                      obtain ⟨g1, g2⟩ := stepL_v _ _ (pcO_16 x2) _ s hs
                      have g3 := stepL_i _ _ _ s hs
                      have g4 := pcO_len x2 o1
                      have g5 := pcO_len (D5 9 first 9) (fun d hd => V8.out.sz 9 d hd)
                      exact ⟨g1, g2, by omega⟩)
                    have PW := Lib.hid (show ss.Pairwise (fun a b => a.i < b.i) by rw [hss]; exact stepL_sorted _ _ _)
                    rw [← hss] at ho
                    have LEN := Lib.hid (show ss.length ≤ 1000 by
                      rw [hss]
                      have := stepL_len (pcO (D5 9 first 9)) (pcO x2) (max (pcO (D5 9 first 9)).length (pcO x2).length)
                      have g4 := pcO_len x2 o1
                      have g5 := pcO_len (D5 9 first 9) (fun d hd => V8.out.sz 9 d hd)
                      omega)
                    have CLD := Lib.hid CLD
                    obtain ⟨n, hn⟩ : ∃ n, n = ss.length := ⟨_, rfl⟩
                    have ho' : w9.ownsRow w8.heap.size 49 3 nv2 ss.length (stL 9 ss) := ho
                    rw [← hn] at ho'
                    obtain ⟨la, lc, rfl⟩ := ow_slice ho'
                    have O9 := Lib.hid ho'; have NN := Lib.hid (show n = ss.length ∧ n ≤ 1000 from ⟨hn, by rw [hn]; exact LEN.out⟩)
                    obtain ⟨P0, hP0⟩ : ∃ P0, P0 = w8.heap.size := ⟨_, rfl⟩
                    rw [← hP0] at O9 CLD
                    clear h1 h2 hb e0 hok ho o1 o2' hx2 hss hn ho' hP0 CS V8 LEN K8 B8
                    as_aux_lemma =>
                      go_upto_region 23 with fail
                      go_loopw [9, 75] (fun lv iv wr => ∃ (t : Nat) (ls : Int), iv = .int .i64 t ∧ lv = .int .i64 ls ∧ t ≤ n ∧ Rise ss t ls ∧ wr.ownsRow P0 49 3 (.slice la n lc) n (stL 9 ss) ∧ Od wr w1.heap.size g b gs r (5 + 10240 + 10240) (D5 9 first) (1 + 1 + 4) ∧ Below w.heap.size w wr) (fun _ iv _ => n - (RowKit.intOf iv).toNat)
                      case atStart => exact ⟨0, -1, rfl, rfl, Nat.zero_le _, fun s _ => by omega, O9.out, V9.out, B9.out⟩
                      case round =>
                        clear O9 V9 B9
                        obtain ⟨t, ls, rfl, rfl, ht, hr, ho, hv, hb⟩ := hrel
                        have O := Lib.hid ho; have V := Lib.hid hv; have BW := Lib.hid hb; have RI := Lib.hid hr; have TN := Lib.hid ht
                        by_cases hlt : t < n
                        · have LT := Lib.hid hlt
                          have hlti : (t : Int) < (n : Int) := by omega
                          have tb : t < 9223372036854775807 := by have := NN.out; omega
                          obtain ⟨s, hs⟩ : ∃ s, ss[t]? = some s := ⟨_, List.getElem?_eq_getElem (by rw [← NN.out.1]; exact hlt)⟩
                          obtain ⟨g2, lc', e1, hg2, hrow⟩ := st_at ho hlt hs
                          obtain ⟨rfl, rfl⟩ : la = some ⟨g2, 0, none⟩ ∧ lc = lc' := by injection e1 with a1 _ a2; exact ⟨a1, a2⟩
                          have RW := Lib.hid hrow
                          have SS := Lib.hid (SV.out s (List.mem_of_getElem? hs))
                          have NX := Lib.hid (Rise.next PW.out hs)
                          have LS := Lib.hid (hr s hs)
                          have BB : Below wr.heap.size wr (wr.alloc (.cells (stC 9 s) 49)) := (Below.refl _ _).alloc (Nat.le_refl _) _
                          have V5 := Lib.hid (hv.kept BB); have O5 := Lib.hid (ow_kept ho BB); have B5 := Lib.hid (below_then hb BB hb.size)
                          have KP := Lib.hid (Bk.new wr 49 (stC 9 s))
                          clear hr ho hv hb ht hlt hs e1 hg2 hrow BB O V BW RI
                          as_aux_lemma =>
                            go_upto_region 25 with (first | (refine load_lst_off rfl _ rfl g2 t 9 s rfl RW.out ?_) | (refine store_lst_new rfl rfl _ _ rfl 9 s rfl rfl ?_))
                            obtain ⟨PB, hPB⟩ : ∃ PB, PB = wr.heap.size := ⟨_, rfl⟩
                            rw [← hPB] at KP ⊢
                            clear hPB RW
                            generalize wr.alloc (.cells (stC 9 s) 49) = w5 at *
                            obtain ⟨K, hK⟩ : ∃ K, K = lkey 9 s.i := ⟨_, rfl⟩
                            obtain ⟨KZ, hKZ⟩ : ∃ KZ, KZ = lkey 9 0 := ⟨_, rfl⟩
                            obtain ⟨KX, hKX⟩ : ∃ KX : ByteArray, KX = ⟨#[0, 9]⟩ := ⟨_, rfl⟩
                            obtain ⟨sk, hsk⟩ : ∃ sk, sk = s.k := ⟨_, rfl⟩
                            obtain ⟨sv3, hsv⟩ : ∃ sv3, sv3 = s.val := ⟨_, rfl⟩
                            have HK := Lib.hid hK
                            have kz : K.size = 4 := by rw [hK]; rfl
                            have kz2 : 2 ≤ K.size := by rw [kz]; decide
                            have zz : KZ.size = 4 := by rw [hKZ]; rfl
                            have zz2 : 2 ≤ KZ.size := by rw [zz]; decide
                            have ex1 : K.extract 0 2 = KX := by rw [hK, key2, hKX]
                            have ex2 : KZ.extract 0 2 = KX := by rw [hKZ, key2, hKX]
                            have es : (KX.toList == KX.toList) = true := by simp
                            have CKy := Lib.hid (show ∀ wx, Calls Try.prog 8 #[.int .i64 9, .int .i64 0] wx fun e w' => e = .returned (.string KZ) ∧ Below wx.heap.size wx w' from fun wx => by rw [hKZ]; exact lkey_any 9 0 wx (by decide) (by decide))
                            have v16 : ¬ (16 : Int) < (sv3.size : Int) := by have := SS.out.1; rw [hsv]; omega
                            have v9 : sv3.size ≤ 9223372036854775807 := by have := SS.out.1; rw [hsv]; omega
                            have y0 := fun x : Kp w5 => show x.1.cell? ⟨PB, 0, none⟩ = some (.int .i64 sk) from by rw [hsk]; exact x.cell (KP.out.cell 0)
                            have y1 := fun x : Kp w5 => show x.1.cell? ⟨PB, 1, none⟩ = some (.string K) from by rw [hK]; exact x.cell (KP.out.cell 1)
                            have y2 := fun x : Kp w5 => show x.1.cell? ⟨PB, 2, none⟩ = some (.string sv3) from by rw [hsv]; exact x.cell (KP.out.cell 2)
                            have VE := Lib.hid (show sk = 16 → sv3.toList.isEmpty = true from fun h => by
                              rw [hsv, SS.out.2.1 (by rw [← hsk]; exact h), toL_data]; rfl)
                            have yw1 := Lib.hid (show w5.cell? ⟨PB, 1, none⟩ = some (.string K) from by rw [hK]; exact KP.out.cell 1)
                            clear hK hKZ hKX hsk hsv
                            go_cut [106] (fun s106 wx => s106 = .bool false ∧ Below w5.heap.size w5 wx)
                            case first =>
                              by_cases k16 : sk = 16
                              · have ve := VE.out k16
                                subst k16
                                refine wp_region_kept (by kernel_rfl) (by kernel_rfl) ?_
                                repeat (first
                                  | go_big_quiet_skip
                                  | (go_big_quiet_want; go_big_quiet_op; first | go_big_quiet_on | go_big_quiet_call (exact kp_call (CKy.out _))))
                                refine wpQuiet_nil ?_
                                rintro _ ⟨x, rfl⟩
                                have XB := Lib.hid x.2
                                go_wp2
                                go_meet
                                exact ⟨rfl, XB.out⟩
                              · have k16b : (sk == 16) = false := by simp [k16]
                                clear k16
                                refine wp_region_kept (by kernel_rfl) (by kernel_rfl) ?_
                                repeat (first
                                  | go_big_quiet_skip
                                  | (go_big_quiet_want; go_big_quiet_op; first | go_big_quiet_on | go_big_quiet_call (exact kp_call (CKy.out _))))
                                refine wpQuiet_nil ?_
                                rintro _ ⟨x, rfl⟩
                                have XB := Lib.hid x.2
                                go_wp2
                                go_meet
                                exact ⟨rfl, XB.out⟩
                            case rest =>
                              obtain ⟨rfl, hb6⟩ := hcut
                              generalize wc = w6 at *
                              have V6 := Lib.hid (V5.out.kept hb6); have O6 := Lib.hid (ow_kept O5.out hb6); have B6 := Lib.hid (below_then B5.out hb6 B5.out.size)
                              have z1 : w6.cell? ⟨PB, 1, none⟩ = some (.string K) := by rw [hb6.cell (World.block_lt_of_cell? w5 _ yw1.out)]; exact yw1.out
                              clear hb6 V5 O5 B5 y0 y1 y2 KP CKy ex1 ex2 es zz zz2 kz2 yw1
                              have kz2 : 2 < K.size := by rw [kz]; decide
                              have kz3 : 3 < K.size := by rw [kz]; decide
                              as_aux_lemma =>
                                go_upto_region 27 with fail
                                go_quiet (fail)
                                rw [key_num s.i SS.out.2.2 HK.out]
                                have nls : ¬ ((s.i : Nat) : Int) ≤ ls := by have := LS.out; omega
                                have V7 := Lib.hid (V6.out.kept (below_drewN (Below.refl w6.heap.size w6) nq)); have O7 := Lib.hid (ow_kept O6.out (below_drewN (Below.refl w6.heap.size w6) nq)); have B7 := Lib.hid (below_drewN B6.out nq)
                                generalize w6.drewN nq = w7 at *
                                clear V6 O6 B6 z1
                                go_wp2
                                go_roundw
                                case rel => exact ⟨t + 1, s.i, by push_cast; rfl, rfl, by have := LT.out; omega, NX.out, O7.out, V7.out, B7.out⟩
                                case measure => have := LT.out; simp [RowKit.intOf]; omega
                        · obtain rfl : t = n := by omega
                          have hni : ¬ (t : Int) < (t : Int) := by omega
                          have CL := Lib.hid (CLD.out wr V.out (by unfold StOwn; rw [← NN.out.1]; exact O.out))
                          clear hlt hr ho hv hb ht
                          as_aux_lemma =>
                            go_wp2_with fail
                            refine CL.out.mono ?_
                            rintro e w10 ⟨rfl, -, hg⟩
                            have B10 := Lib.hid (bl_grow BW.out hg (fun k hk => by cases hk; exact Nat.le_trans B1.out.size BG.out) BW.out.size)
                            clear hg CL V BW
                            go_wp2
                            go_ret
                            exact ⟨rfl, B10.out⟩
                  · have hv2 := h1 e0
                    subst hv2
                    have e0b : ((opD (D5 9 first) o2).1 != 0) = true := by simp [e0]
                    generalize (opD (D5 9 first) o2).1 = er at *
                    clear h1 h2 hb e0 CS
                    as_aux_lemma =>
                      go_wp2
                      go_ret
                      exact ⟨rfl, B9.out⟩
end Go.Proofs.Ytaiiimlmkigajaa
