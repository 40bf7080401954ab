/- The walk of WalCuts. -/
import Derived.Test.YtplcddcdhnjfeaaWalRound
set_option linter.unusedVariables false
set_option linter.unusedSimpArgs false
namespace Go.Proofs.Ytplcddcdhnjfeaa
open Go.RowKit

theorem Sq.mono {w : World} {B B' : Nat} {v : Value} {m : Nat} {f : Nat → Value} (h : Sq w B v m f) (hB : B ≤ B') : Sq w B' v m f := by
  obtain ⟨a, c, e, h⟩ := h
  refine ⟨a, c, e, fun hm => ?_⟩
  obtain ⟨b, off, e1, hlt, hc⟩ := h hm
  exact ⟨b, off, e1, by omega, hc⟩
section
variable {w w' : World} {B B' : Nat} {I : Wd} {L : Lg} {S : Dsk} {v : Value} {n : Nat} {xs : List Value}
/-- A row of places of one's own, while a log goes on beside it. -/
theorem row_app (hW : Wl w B I L S) (h : w.ownsRow B' 3 1 v n xs) (hne : ∀ k, v.ownBlock = some k → I.pv.ownBlock ≠ some k) (ho : AppOut w w' I) : w'.ownsRow B' 3 1 v n xs :=
  owns_of_block h fun k hk => by
    obtain ⟨_, hlk, cur, hb⟩ := owns_block h hk
    refine ho.block k hlk ?_
    rintro (rfl | h | h)
    · exact Bk.ne_ hb hW.box (by decide) rfl
    · exact hne k hk h
    · obtain ⟨_, _, c, hc⟩ := owns_block hW.dat h
      exact Bk.ne_ hb hc (by decide) rfl
theorem txt_app (hW : Wl w B I L S) (h : w.ownsRow B' 9 1 v n xs) (ho : AppOut w w' I) : w'.ownsRow B' 9 1 v n xs :=
  owns_of_block h fun k hk => by
    obtain ⟨_, hlk, cur, hb⟩ := owns_block h hk
    refine ho.block k hlk ?_
    rintro (rfl | h | h)
    · exact Bk.ne_ hb hW.box (by decide) rfl
    · obtain ⟨_, _, c, hc⟩ := owns_block hW.plc h
      exact Bk.ne_ hb hc (by decide) rfl
    · obtain ⟨_, _, c, hc⟩ := owns_block hW.dat h
      exact Bk.ne_ hb hc (by decide) rfl
theorem row_df (hW : Wl w B I L S) (h : w.ownsRow B' 3 1 v n xs) (ho : Out w w' (I.df B w)) : w'.ownsRow B' 3 1 v n xs :=
  owns_of_block h fun k hk => by
    obtain ⟨_, hlk, cur, hb⟩ := owns_block h hk
    refine ho.block k hlk ?_
    rintro (rfl | rfl | rfl | rfl | ⟨_, cur2, hc2⟩)
    · exact Bk.ne_ hb hW.box (by decide) rfl
    · exact Bk.ne_ hb hW.dsk.box (by decide) rfl
    · exact hW.dsk.firm.ne_bk hb (by decide) rfl
    · exact hW.dsk.now.ne_bk hb (by decide) rfl
    · exact Bk.ne_ hb hc2 (by decide) rfl
theorem row_foot {I : Ids} (hD : Dk w B I S) (h : w.ownsRow B' 3 1 v n xs) (ho : Out w w' I.foot) : w'.ownsRow B' 3 1 v n xs :=
  owns_of_block h fun k hk => by
    obtain ⟨_, hlk, cur, hb⟩ := owns_block h hk
    refine ho.block k hlk ?_
    rintro (rfl | rfl | rfl | hk2)
    · exact Bk.ne_ hb hD.box (by decide) rfl
    · exact hD.firm.ne_bk hb (by decide) rfl
    · exact hD.now.ne_bk hb (by decide) rfl
    · obtain ⟨_, _, c, hc⟩ := owns_block hD.pend hk2
      exact Bk.ne_ hb hc (by decide) rfl
theorem txt_df (hW : Wl w B I L S) (h : w.ownsRow B' 9 1 v n xs) (hf : I.d.f < B') (hn : I.d.n < B') (ho : Out w w' (I.df B w)) : w'.ownsRow B' 9 1 v n xs :=
  owns_of_block h fun k hk => by
    obtain ⟨hlo, hlk, cur, hb⟩ := owns_block h hk
    refine ho.block k hlk ?_
    rintro (rfl | rfl | rfl | rfl | ⟨_, cur2, hc2⟩)
    · exact Bk.ne_ hb hW.box (by decide) rfl
    · exact Bk.ne_ hb hW.dsk.box (by decide) rfl
    · omega
    · omega
    · exact Bk.ne_ hb hc2 (by decide) rfl
theorem own_one {e : TypeId} {size : Nat} (hW : Wl w B I L S) (h : w.ownsRow B' e size v n xs) (he : e ≠ 67) (ho : Out w w' (fun k => k = I.g)) : w'.ownsRow B' e size v n xs :=
  owns_of_block h fun k hk => by
    obtain ⟨_, hlk, cur, hb⟩ := owns_block h hk
    refine ho.block k hlk ?_
    rintro rfl
    exact Bk.ne_ hb hW.box he rfl
theorem Wl.igrown {row : Option Nat} (h : Wl w B I L S) (hg : w.grownBy w' row) (hr : ∀ k, row = some k → I.pv.ownBlock ≠ some k ∧ ∃ cur, Bk w k 3 cur) : Wl w' B I L S :=
  ⟨h.box.grown hg (fun e => by obtain ⟨_, cur, hc⟩ := hr _ e.symm; exact Bk.ne_ h.box hc (by decide) rfl), h.bg,
    h.dsk.grown hg (fun j hj => by obtain ⟨_, cur, hc⟩ := hr j hj; exact ⟨_, cur, hc, by decide, by decide, by decide⟩),
    own_grown h.dat hg (fun k hk => (hr k hk).2) (by decide), owns_of_block h.plc fun k hk => hg.block k (owns_block h.plc hk).2.1 (fun e => (hr k e.symm).1 hk), h.ok⟩
theorem Wl.sgrown {row : Option Nat} (h : Wl w B I L S) (hg : w.grownBy w' row) (hf : I.d.f < B') (hn : I.d.n < B') (hr : ∀ k, row = some k → B' ≤ k ∧ ∃ cur, Bk w k 9 cur) : Wl w' B I L S :=
  ⟨h.box.grown hg (fun e => by obtain ⟨_, cur, hc⟩ := hr _ e.symm; exact Bk.ne_ h.box hc (by decide) rfl), h.bg,
    h.dsk.of_same fun k hk => hg.block k (h.dsk.foot_lt hk).2 (fun e => by
      obtain ⟨hlo, cur, hc⟩ := hr k e.symm
      rcases hk with rfl | rfl | rfl | hk
      · exact Bk.ne_ hc h.dsk.box (by decide) rfl
      · omega
      · omega
      · obtain ⟨_, _, c, hc2⟩ := owns_block h.dsk.pend hk
        exact Bk.ne_ hc hc2 (by decide) rfl),
    own_grown h.dat hg (fun k hk => (hr k hk).2) (by decide), own_grown h.plc hg (fun k hk => (hr k hk).2) (by decide), h.ok⟩
end
def txts (l : List ByteArray) : List Value := l.map .string
theorem ints_snoc (l : List Nat) (x : Nat) : ints (l ++ [x]) = ints l ++ [.int .i64 (x : Int)] := by unfold ints; rw [List.map_append]; rfl
theorem txts_snoc (l : List ByteArray) (x : ByteArray) : txts (l ++ [x]) = txts l ++ [.string x] := by unfold txts; rw [List.map_append]; rfl

theorem place_cells {w : World} {B : Nat} {v : Value} {al : List ByteArray} (h : w.ownsRow B 3 1 v al.length (ints (plcFrom 54 al))) (h0 : 0 < al.length) : ∃ g c, v = .slice (some ⟨g, 0, none⟩) al.length c ∧ ∀ i, i < al.length → w.cell? ⟨g, i, none⟩ = some (.int .i64 ((54 + total (al.take i) : Nat) : Int)) := by
  have hl := plc_length al 54
  obtain ⟨g, c, hv, -, hc⟩ := row_int (l := plcFrom 54 al) (by rw [hl]; exact h) (by omega)
  rw [hl] at hv
  exact ⟨g, c, hv, fun i hi => by rw [← plc_at al 54 i (by omega)]; exact hc i (by omega)⟩
theorem place_cell {w : World} {B ag ac : Nat} {al : List ByteArray} (h : w.ownsRow B 3 1 (.slice (some ⟨ag, 0, none⟩) al.length ac) al.length (ints (plcFrom 54 al))) (i : Nat) (hi : i < al.length) : w.cell? ⟨ag, i, none⟩ = some (.int .i64 ((54 + total (al.take i) : Nat) : Int)) := by
  obtain ⟨g, c, e, hc⟩ := place_cells h (by omega)
  obtain rfl : ag = g := by injection e with e; injection e with e; injection e
  exact hc i hi
theorem text_cell {w : World} {B sg sc : Nat} {al : List ByteArray} (h : w.ownsRow B 9 1 (.slice (some ⟨sg, 0, none⟩) al.length sc) al.length (txts al)) (i : Nat) (hi : i < al.length) : w.cell? ⟨sg, i, none⟩ = some (.string (al[i])) := by
  have := h.cells (g := sg) rfl i (.string (al[i])) (by unfold txts; rw [List.getElem?_map, List.getElem?_eq_getElem hi]; rfl)
  rw [Addr.add_lit, Nat.zero_add] at this
  exact this
theorem rem_twice (n : Int) (t : Nat) (ht : t ≤ 1000000) : ∃ m : Nat, m < t + 1 ∧ (wrap64 (n.tmod ((t : Int) + 1) + ((t : Int) + 1))).tmod ((t : Int) + 1) = (m : Int) := by
  have hb : 0 < (t : Int) + 1 := by omega
  have h1 : -((t : Int) + 1) < n.tmod ((t : Int) + 1) ∧ n.tmod ((t : Int) + 1) < (t : Int) + 1 := by
    have a := Int.emod_nonneg n (show (t : Int) + 1 ≠ 0 by omega)
    have b := Int.emod_lt_of_pos n hb
    rw [Int.tmod_eq_emod]
    have c : (((t : Int) + 1).natAbs : Int) = (t : Int) + 1 := by omega
    split <;> omega
  generalize n.tmod ((t : Int) + 1) = x at *
  have hw : wrap64 (x + ((t : Int) + 1)) = x + ((t : Int) + 1) := by
    have := IntKind.wrap_i64 (x + ((t : Int) + 1))
    unfold wrap64
    omega
  rw [hw, Int.tmod_eq_emod_of_nonneg (by omega)]
  have a := Int.emod_nonneg (x + ((t : Int) + 1)) (show (t : Int) + 1 ≠ 0 by omega)
  have b := Int.emod_lt_of_pos (x + ((t : Int) + 1)) hb
  exact ⟨((x + ((t : Int) + 1)) % ((t : Int) + 1)).toNat, by omega, by omega⟩
theorem text_cells {w : World} {B : Nat} {v : Value} {al : List ByteArray} (h : w.ownsRow B 9 1 v al.length (txts al)) (h0 : 0 < al.length) : ∃ g c, v = .slice (some ⟨g, 0, none⟩) al.length c ∧ ∀ i (hi : i < al.length), w.cell? ⟨g, i, none⟩ = some (.string (al[i])) := by
  rcases h.2 with ⟨_, h1⟩ | ⟨g, cap, cur, hv, hg, hh, hn, hm, r⟩
  · omega
  · refine ⟨g, cap, hv, fun i hi => ?_⟩
    have := h.cells (g := g) (by rw [hv]; rfl) i (.string (al[i])) (by unfold txts; rw [List.getElem?_map, List.getElem?_eq_getElem hi]; rfl)
    rw [Addr.add_lit, Nat.zero_add] at this
    exact this

set_option maxRecDepth 100000 in
set_option maxHeartbeats 8000000 in
theorem cuts_core (ra : Option Addr) (rc mr : Nat) (s : Nat → ByteArray) (n : Int) (w : World) (hn1 : -9223372036854775808 ≤ n) (hn2 : n ≤ 9223372036854775807) (hR : Sq w w.heap.size (.slice ra mr rc) mr (fun i => .string (s i))) (hRm : mr ≤ maxLen) (hRs : ∀ i, i < mr → (s i).size ≤ maxLen) :
    Calls Try.prog 6 #[.slice ra mr rc, .int .i64 n] w fun e w' => e = .returned (.bool true) ∧ Below w.heap.size w w' := by
  have CA := Lib.hid (awake_any w)
  have CN := Lib.hid (fun w => new_good 128 w (by omega) (by omega))
  have RQ := Lib.hid hR
  have RS := Lib.hid hRs
  have NN := Lib.hid (And.intro hn1 hn2)
  have hmr : mr ≤ 9223372036854775807 := by unfold maxLen at hRm; omega
  clear hRm hRs hR hn1 hn2
  go_enter Try.func6, Try.ntmps6
  go_wp2_with fail
  refine CA.out.mono ?_
  rintro e w1 ⟨rfl, hb⟩
  have B1 := Lib.hid hb
  clear hb CA
  as_aux_lemma =>
    go_wp2_with fail
    refine (CN.out _).mono ?_
    rintro e w2 ⟨I, rfl, hd, hb⟩
    have B2 := Lib.hid (below_then B1.out hb B1.out.size)
    have CC := Lib.hid (create_good 128 0 128 hd (by omega) (by omega) (by omega) hb.size)
    have HS := Lib.hid B1.out.size
    clear hd hb CN B1
    generalize w1.heap.size = B at *
    unfold Ids.ptr at *
    as_aux_lemma =>
      go_wp2_with fail
      refine CC.out.mono ?_
      rintro e w3 ⟨g, p', rfl, hw, hb⟩
      have B3 := Lib.hid (B2.out.trans (hb.mono HS.out))
      have W3 := Lib.hid hw
      have P3 := Lib.hid (show Wq 128 0 128 54 ⟨#[]⟩ (Lg.new 0 128) (.start (blanks 128)) [] 0 from wq_new 128 0 128 (-1) (by omega) (by omega) (by omega) (by omega))
      have R3 := Lib.hid (show Run (.start (blanks 128)) from ⟨rfl, rfl⟩)
      have FN := Lib.hid (And.intro hw.dsk.firm.lt hw.dsk.now.lt)
      have HS3 := Lib.hid (show w.heap.size ≤ w3.heap.size from B3.out.size)
      have HB := Lib.hid (show B ≤ w3.heap.size from by have := hw.bg; have := hw.box.lt; dsimp only at *; omega)
      obtain ⟨D, hD⟩ : ∃ D, D = I.with p' := ⟨_, rfl⟩
      rw [← hD] at W3 FN
      have HDg := Lib.hid (show D.g = I.g from by rw [hD]; rfl)
      dsimp only at FN
      have hdt : D.g = I.g := HDg.out
      obtain ⟨B3n, hB3⟩ : ∃ b, b = w3.heap.size := ⟨_, rfl⟩
      rw [← hB3] at FN HS3 HB
      have HB3 := Lib.hid (show B3n ≤ w3.heap.size from by omega)
      clear hw hb CC B2 hD hB3 hdt
      as_aux_lemma =>
        go_wp2_with fail
        go_loopw [9, 10, 37] (fun av sv i wr => ∃ (j : Nat) (dv pv : Value) (L : Lg) (al : List ByteArray), j ≤ mr ∧ i = .int .i64 j ∧ Wl wr B ⟨g, D, dv, pv⟩ L (.start (blanks 128)) ∧ Wq 128 0 128 54 ⟨#[]⟩ L (.start (blanks 128)) al 0 ∧ wr.ownsRow B3n 3 1 av al.length (ints (plcFrom 54 al)) ∧ wr.ownsRow B3n 9 1 sv al.length (txts al) ∧ (∀ k, av.ownBlock = some k → pv.ownBlock ≠ some k) ∧ B3n ≤ wr.heap.size ∧ Below w.heap.size w wr) (fun _ _ i _ => mr - (intOf i).toNat)
        case atStart => exact ⟨0, _, _, _, [], Nat.zero_le _, rfl, W3.out, P3.out, World.ownsRow_nil _ _ _ _, World.ownsRow_nil _ _ _ _, (fun k hk => by cases hk), HB3.out, B3.out⟩
        case round =>
          obtain ⟨j, dv, pv, L, al, hj, rfl, hW, hP, hA, hT, hne, hBw, hb⟩ := hrel
          have W := Lib.hid hW; have BB := Lib.hid hb; have HW := Lib.hid hBw; have P := Lib.hid hP; have AV := Lib.hid hA; have SV := Lib.hid hT; have NE := Lib.hid hne
          have LB := Lib.hid (show L.fin ≤ 7000 from by have := hP.fin; have := hP.most; omega)
          have LN := Lib.hid (show al.length ≤ 7000 from by have := hP.most; have := len_total al; omega)
          have FI := Lib.hid hP.fin
          clear hW hb hBw hP hA hT hne W3 B3 HB3 P3
          as_aux_lemma =>
            by_cases hlt : j < mr
            · have HLT := Lib.hid hlt
              obtain ⟨a', c', e', hq'⟩ := RQ.out
              obtain ⟨rfl, rfl⟩ : ra = a' ∧ rc = c' := by simpa using e'
              obtain ⟨b, off, hsa, hlb, hc⟩ := hq' (by omega)
              subst hsa
              have q0 : wr.cell? ⟨b, off + j, none⟩ = some (.string (s j)) := by
                rw [BB.out.cell (p := ⟨b, off + j, none⟩) hlb]; exact hc j hlt
              have RZ := Lib.hid (RS.out j hlt)
              clear hc e' hq'
              generalize s j = rec at *
              have CAp := Lib.hid (append_wq2 W.out P.out rec (Nat.le_trans HB.out HW.out) RZ.out (by have := LB.out; omega))
              unfold Wd.ptr at CAp
              dsimp only at CAp
              go_wp2_with fail
              refine CAp.out.mono ?_
              rintro e w6 ⟨dv6, pv6, ho, hloc, ⟨er, rfl, hne, hne', hw6⟩ | ⟨rfl, -, -, -, hfin, hw6, hq6⟩⟩
              · have W6 := Lib.hid hw6
                have B6 := Lib.hid (BB.out.trans ((app_below W.out ho (Nat.le_trans HB.out HW.out)).mono HS.out))
                have HW6 := Lib.hid (Nat.le_trans HW.out ho.size)
                have AV6 := Lib.hid (row_app W.out AV.out NE.out ho)
                have SV6 := Lib.hid (txt_app W.out SV.out ho)
                have NE6 := Lib.hid (show ∀ k, Value.ownBlock u9 = some k → pv6.ownBlock ≠ some k from fun k hk e => by
                  rcases hloc k e with h | h
                  · exact NE.out k hk h
                  · have := (owns_block AV.out hk).2.1; omega)
                clear hw6 ho hloc CAp W BB HW q0 AV SV NE
                as_aux_lemma =>
                  go_wp2_with fail
                  go_roundw
                  case rel => exact ⟨j + 1, dv6, pv6, L, al, by have := HLT.out; omega, by go_num, W6.out, P.out, AV6.out, SV6.out, NE6.out, HW6.out, B6.out⟩
                  case measure => have := HLT.out; simp [intOf]; omega
              · have W6 := Lib.hid hw6
                have P6 := Lib.hid hq6
                have B6 := Lib.hid (BB.out.trans ((app_below W.out ho (Nat.le_trans HB.out HW.out)).mono HS.out))
                have HW6 := Lib.hid (Nat.le_trans HW.out ho.size)
                have AV6 := Lib.hid (row_app W.out AV.out NE.out ho)
                have SV6 := Lib.hid (txt_app W.out SV.out ho)
                have NE6 := Lib.hid (show ∀ k, Value.ownBlock u9 = some k → pv6.ownBlock ≠ some k from fun k hk e => by
                  rcases hloc k e with h | h
                  · exact NE.out k hk h
                  · have := (owns_block AV.out hk).2.1; omega)
                have NS := Lib.hid (plc_snoc al 54 rec)
                rw [← FI.out] at NS
                clear hw6 ho hloc CAp W BB HW q0 AV SV NE hq6 P hfin
                generalize L.more rec = L2 at *
                as_aux_lemma =>
                  obtain ⟨i1, hi1, hy0, hy1, hy2⟩ := info_parts Try.info3
                  obtain ⟨i2, hi2, hz0, hz1, hz2⟩ := info_parts Try.info9
                  have T0 := Lib.hid (Bk.new w6 3 #[.int .i64 L.fin])
                  have WA := Lib.hid (W6.out.kept ((Below.refl _ _).alloc (Nat.le_refl _) (.cells #[.int .i64 L.fin] 3)))
                  have AA := Lib.hid (World.ownsRow.alloc AV6.out (.cells #[.int .i64 L.fin] 3))
                  have SA := Lib.hid (World.ownsRow.alloc SV6.out (.cells #[.int .i64 L.fin] 3))
                  have HBA := Lib.hid (show B3n ≤ (w6.alloc (.cells #[.int .i64 L.fin] 3)).heap.size from by have := HW6.out; simp; omega)
                  have PVL := Lib.hid (show ∀ k, pv6.ownBlock = some k → k < w6.heap.size from fun k hk => (owns_block W6.out.plc hk).2.1)
                  obtain ⟨aa, ac, hae⟩ := tx_slice AA.out
                  subst hae
                  obtain ⟨sa, sc, hse⟩ := tx_slice SA.out
                  subst hse
                  have ll : al.length ≤ 7000 := LN.out
                  go_wp2_with (at_builtin; refine wpList_append_own_at _ rfl _ _ 23 rfl B3n 3 i1 (.int .i64 0) 1 8 Try.underlying23 hi1 hy0 hy1 hy2 rfl (by decide) (.slice aa al.length ac) al.length (ints (plcFrom 54 al)) rfl AA.out ⟨w6.heap.size, 0, none⟩ 1 1 [.int .i64 L.fin] rfl rfl ?rc2 ?rc3 ?rc4 ?rc5 ?rc6 ?_)
                  case rc2 =>
                    intro j u hj
                    rw [Addr.add_lit, Nat.zero_add]
                    refine Eq.trans (T0.out.cell j) ?_
                    simpa using hj
                  case rc3 => simp [Value.oneCell']
                  case rc4 => unfold maxLen; omega
                  case rc5 => omega
                  case rc6 => exact HBA.out
                  intro av2 w7 hown hgrow _ hloc2
                  have hre : ∀ k, (Value.slice aa al.length ac).ownBlock = some k → pv6.ownBlock ≠ some k ∧ ∃ cur, Bk (w6.alloc (.cells #[.int .i64 L.fin] 3)) k 3 cur := fun k hk => ⟨NE6.out k hk, (owns_block AA.out hk).2.2⟩
                  have W7 := Lib.hid (WA.out.igrown hgrow hre)
                  have A7 := Lib.hid (show w7.ownsRow B3n 3 1 av2 (al ++ [rec]).length (ints (plcFrom 54 (al ++ [rec]))) from by rw [NS.out, List.length_append, ints_snoc]; exact hown)
                  have S7 := Lib.hid (own_grown' SA.out AA.out hgrow (by decide))
                  have NE7 := Lib.hid (show ∀ k, Value.ownBlock av2 = some k → pv6.ownBlock ≠ some k from fun k hk e => by
                    rcases hloc2 with h | h
                    · rw [h] at hk; exact NE6.out k hk e
                    · rw [h] at hk; have := PVL.out k e; simp at hk; omega)
                  have B7 := Lib.hid ((B6.out.alloc B6.out.size (.cells #[.int .i64 L.fin] 3)).trans (((Below.refl _ _).grown hgrow HBA.out (fun k hk => (owns_block AA.out hk).1)).mono HS3.out))
                  have HW7 := Lib.hid (Nat.le_trans HBA.out hgrow.size)
                  clear hown hgrow hre hloc2 T0 WA AA SA HBA W6 AV6 SV6 NE6 B6 HW6 PVL
                  have T1 := Lib.hid (Bk.new w7 9 #[.string rec])
                  have WB := Lib.hid (W7.out.kept ((Below.refl _ _).alloc (Nat.le_refl _) (.cells #[.string rec] 9)))
                  have AB := Lib.hid (World.ownsRow.alloc A7.out (.cells #[.string rec] 9))
                  have SB := Lib.hid (World.ownsRow.alloc S7.out (.cells #[.string rec] 9))
                  have HBB := Lib.hid (show B3n ≤ (w7.alloc (.cells #[.string rec] 9)).heap.size from by have := HW7.out; simp; omega)
                  go_wp2_with (at_builtin; refine wpList_append_own_at _ rfl _ _ 22 rfl B3n 9 i2 (.string ⟨#[]⟩) 1 16 Try.underlying22 hi2 hz0 hz1 hz2 rfl (by decide) (.slice sa al.length sc) al.length (txts al) rfl SB.out ⟨w7.heap.size, 0, none⟩ 1 1 [.string rec] rfl rfl ?sc2 ?sc3 ?sc4 ?sc5 ?sc6 ?_)
                  case sc2 =>
                    intro j u hj
                    rw [Addr.add_lit, Nat.zero_add]
                    refine Eq.trans (T1.out.cell j) ?_
                    simpa using hj
                  case sc3 => simp [Value.oneCell']
                  case sc4 => unfold maxLen; omega
                  case sc5 => omega
                  case sc6 => exact HBB.out
                  intro sv2 w8 hown hgrow _ _
                  have hre : ∀ k, (Value.slice sa al.length sc).ownBlock = some k → B3n ≤ k ∧ ∃ cur, Bk (w7.alloc (.cells #[.string rec] 9)) k 9 cur := fun k hk => ⟨(owns_block SB.out hk).1, (owns_block SB.out hk).2.2⟩
                  have W8 := Lib.hid (WB.out.sgrown hgrow FN.out.1 FN.out.2 hre)
                  have S8 := Lib.hid (show w8.ownsRow B3n 9 1 sv2 (al ++ [rec]).length (txts (al ++ [rec])) from by rw [List.length_append, txts_snoc]; exact hown)
                  have A8 := Lib.hid (own_grown' AB.out SB.out hgrow (by decide))
                  have B8 := Lib.hid ((B7.out.alloc B7.out.size (.cells #[.string rec] 9)).trans (((Below.refl _ _).grown hgrow HBB.out (fun k hk => (owns_block SB.out hk).1)).mono HS3.out))
                  have HW8 := Lib.hid (Nat.le_trans HBB.out hgrow.size)
                  clear hown hgrow hre T1 WB AB SB HBB W7 A7 S7 B7 HW7
                  as_aux_lemma =>
                    go_wp2_with fail
                    go_roundw
                    case rel => exact ⟨j + 1, dv6, pv6, L2, al ++ [rec], by have := HLT.out; omega, by go_num, W8.out, P6.out, A8.out, S8.out, NE7.out, HW8.out, B8.out⟩
                    case measure => have := HLT.out; simp [intOf]; omega
            · clear RQ RS
              by_cases hz : al.length = 0
              · obtain ⟨aa, ac, hae⟩ := tx_slice AV.out
                subst hae
                have hz' : ((al.length : Nat) : Int) == 0 := by rw [hz]; rfl
                rw [hz]
                go_wp2_with fail
                go_ret
                exact ⟨rfl, BB.out⟩
              obtain ⟨t, ht⟩ : ∃ t, al.length = t + 1 := ⟨al.length - 1, by omega⟩
              have LT := Lib.hid ht
              obtain ⟨ag, ac, hav, hacs⟩ := place_cells AV.out (by omega)
              subst hav
              have AC := Lib.hid hacs
              have q0 : wr.cell? ⟨ag, t, none⟩ = some (.int .i64 ((54 + total (al.take t) : Nat) : Int)) := hacs t (by omega)
              have CFl := Lib.hid (flush_wq W.out P.out ((54 + total (al.take t) : Nat) : Int) (Nat.le_trans HB.out HW.out))
              unfold Wd.ptr at CFl
              dsimp only at CFl
              have TM := Lib.hid (show ∀ g, g < al.length → ((54 + total (al.take g) : Nat) : Int) ≤ ((54 + total (al.take t) : Nat) : Int) from fun g hg => by have := total_mono al g t (by omega); omega)
              generalize (54 + total (al.take t) : Nat) = lp at *
              rw [ht]
              clear hacs hz ht
              have tz : t ≤ 7000 := by have := LN.out; have := LT.out; omega
              go_wp2_with fail
              refine CFl.out.mono ?_
              rintro e w7 ⟨p7, L7, S7, er, rfl, hw7, -, -, hq7, hr7, hfi7, ho7⟩
              obtain ⟨rfl, hR7⟩ := hr7 ⟨rfl, rfl⟩
              have hq7' := hq7 rfl TM.out
              have W7 := Lib.hid hw7; have P7 := Lib.hid hq7'.1; have R7 := Lib.hid hR7; have FF7 := Lib.hid hq7'.2
              have B7 := Lib.hid (BB.out.trans ((df_below W.out ho7 (Nat.le_trans HB.out HW.out)).mono HS.out))
              have HW7 := Lib.hid (Nat.le_trans HW.out ho7.size)
              have AV7 := Lib.hid (row_df W.out AV.out ho7)
              have SV7 := Lib.hid (txt_df W.out SV.out FN.out.1 FN.out.2 ho7)
              clear hw7 hq7 hq7' hr7 hfi7 ho7 CFl W P AV SV NE BB HW LB FI hR7 q0 TM AC
              as_aux_lemma =>
                have hl0 : ¬ ((t : Int) + 1 = 0) := by omega
                have hl1 : (((t : Int) + 1) == 0) = false := by simp; omega
                go_upto_region 19 with fail
                obtain ⟨m, hm, em⟩ := rem_twice n t (by omega)
                rw [em]
                clear em hl0 hl1
                have CR := Lib.hid (room_any W7.out)
                unfold Wd.ptr at CR
                dsimp only at CR
                as_aux_lemma =>
                  go_wp2_with fail
                  refine CR.out.mono ?_
                  rintro e w8 ⟨rfl, n1, hw8⟩
                  have X8 := Lib.hid (show Below w7.heap.size w7 w8 by rw [hw8]; exact below_drewN (Below.refl _ _) n1)
                  have W8 := Lib.hid (W7.out.kept X8.out)
                  have B8 := Lib.hid (below_then B7.out X8.out B7.out.size)
                  have HW8 := Lib.hid (Nat.le_trans HW7.out X8.out.size)
                  have AV8 := Lib.hid (own_kept AV7.out X8.out)
                  have SV8 := Lib.hid (own_kept SV7.out X8.out)
                  have HM := Lib.hid hm
                  have hm2 : m < al.length := by have := LT.out; omega
                  have q1 := place_cell AV8.out m hm2
                  have FF := Lib.hid (show 54 + total (al.take m) ≤ L7.firm from by rw [FF7.out, P7.out.fin]; have := total_take al m; omega)
                  have CCu := Lib.hid (cut_wq W8.out P7.out m (Nat.le_of_lt hm2) (54 + total (al.take m)) rfl FF.out (Nat.le_trans HB.out HW8.out))
                  unfold Wd.ptr at CCu
                  dsimp only at CCu
                  have RM := Lib.hid (show ¬ (((L7.cut (54 + total (al.take m))).room : Nat) : Int) < ((L7.room : Nat) : Int) from by
                    have a : (L7.cut (54 + total (al.take m))).room = 54 * L7.n - (L7.fin - flr (54 + total (al.take m))) := rfl
                    have b : L7.room = 54 * L7.n - (L7.fin - flr L7.start) := rfl
                    have c : flr L7.start ≤ flr (54 + total (al.take m)) := flr_mono (by rw [P7.out.ns]; omega)
                    omega)
                  have SM := Lib.hid (show 54 + total (al.take m) ≤ 1099511627776 ∧ total al ≤ 7000 from by have := P7.out.most; have := total_take al m; omega)
                  clear hw8 CR X8 W7 B7 HW7 AV7 SV7
                  generalize L7.cut (54 + total (al.take m)) = Lc at *
                  as_aux_lemma =>
                    go_wp2_with fail
                    refine CCu.out.mono ?_
                    rintro e w9 ⟨rfl, dv9, pv9, pre9, hw9, hq9, ho9⟩
                    have W9 := Lib.hid hw9
                    have P9 := Lib.hid hq9
                    have B9 := Lib.hid (B8.out.trans ((one_below W8.out ho9 (Nat.le_trans HB.out HW8.out)).mono HS.out))
                    have HW9 := Lib.hid (Nat.le_trans HW8.out ho9.size)
                    have AV9 := Lib.hid (own_one W8.out AV8.out (by decide) ho9)
                    have SV9 := Lib.hid (own_one W8.out SV8.out (by decide) ho9)
                    have CR := Lib.hid (room_any hw9)
                    unfold Wd.ptr at CR
                    dsimp only at CR
                    clear hw9 hq9 ho9 CCu W8 B8 HW8 AV8 SV8 q1 FF P7 hm
                    as_aux_lemma =>
                      go_wp2_with fail
                      refine CR.out.mono ?_
                      rintro e w10 ⟨rfl, n2, hw10⟩
                      have X8 := Lib.hid (show Below w9.heap.size w9 w10 by rw [hw10]; exact below_drewN (Below.refl _ _) n2)
                      have W10 := Lib.hid (W9.out.kept X8.out)
                      have B10 := Lib.hid (below_then B9.out X8.out B9.out.size)
                      have HW10 := Lib.hid (Nat.le_trans HW9.out X8.out.size)
                      have AV10 := Lib.hid (own_kept AV9.out X8.out)
                      have SV10 := Lib.hid (own_kept SV9.out X8.out)
                      have rm : ¬ ((Lc.room : Nat) : Int) < ((L7.room : Nat) : Int) := (by have := RM.out; omega)
                      have rmd : decide (((Lc.room : Nat) : Int) < ((L7.room : Nat) : Int)) = false := decide_eq_false rm
                      obtain ⟨sg, sc, hsv, -⟩ := text_cells SV10.out (by omega)
                      subst hsv
                      clear hw10 CR X8 W9 B9 HW9 AV9 SV9
                      as_aux_lemma =>
                        go_wp2_with fail
                        have rn : decide (Lc.room < L7.room) = false := decide_eq_false (by omega)
                        rw [rn]
                        clear rm rmd rn
                        go_loopw [102] (fun i wr => ∃ j : Nat, j ≤ t + 1 ∧ i = .int .i64 j ∧ Below w10.heap.size w10 wr) (fun i _ => t + 1 - (intOf i).toNat)
                        case atStart => exact ⟨0, Nat.zero_le _, rfl, Below.refl _ _⟩
                        case round =>
                          obtain ⟨j, hj, rfl, hb⟩ := hrel
                          have X := Lib.hid hb
                          clear hb
                          as_aux_lemma =>
                            have WX := Lib.hid (W10.out.kept X.out)
                            have AX := Lib.hid (own_kept AV10.out X.out)
                            by_cases hjt : j < t + 1
                            · have HJT := Lib.hid hjt
                              have hjl : j < al.length := by have := LT.out; omega
                              have q2 := place_cell AX.out j hjl
                              by_cases hjm : j < m
                              · have hlt : total (al.take j) < total (al.take m) := by
                                  have a := take_later al j (j + 1) (by omega)
                                  have b := total_mono al (j + 1) m (by omega)
                                  have c : total ((al.drop j).take (j + 1 - j)) ≥ 2 := by
                                    rw [show j + 1 - j = 1 by omega, List.drop_eq_getElem_cons hjl]
                                    show total ([al[j]]) ≥ 2
                                    rw [total_cons]
                                    omega
                                  omega
                                have CRd := Lib.hid (read_older WX.out P9.out (54 + total (al.take j)) (by omega))
                                unfold Wd.ptr at CRd
                                dsimp only at CRd
                                have hjm1 : (j : Int) < (m : Int) := by omega
                                have hjm2 : decide ((j : Int) < (m : Int)) = true := decide_eq_true hjm1
                                have hjm3 : ¬ (m : Int) ≤ (j : Int) := by omega
                                have hjm4 : decide ((m : Int) ≤ (j : Int)) = false := decide_eq_false hjm3
                                generalize (54 + total (al.take j) : Nat) = x at *
                                clear hlt
                                go_wp2_with fail
                                refine CRd.out.mono ?_
                                rintro e w11 ⟨rfl, hb11⟩
                                have X11 := Lib.hid (below_then X.out hb11 X.out.size)
                                clear hb11 CRd q2 X AX WX
                                go_wp2_with fail
                                go_roundw
                                case rel => exact ⟨j + 1, by have := HJT.out; omega, by go_num, X11.out⟩
                                case measure => have := HJT.out; simp [intOf]; omega
                              · have hdl : j - m < (al.drop m).length := by rw [List.length_drop]; omega
                                have CRd := read_wq WX.out P9.out (j - m) hdl
                                have ex : 54 + total (al.take m) + total ((al.drop m).take (j - m)) = 54 + total (al.take j) := by have := take_later al m j (by omega); omega
                                have ev : (al.drop m)[j - m] = al[j] := by rw [List.getElem_drop]; congr 1; omega
                                rw [ex, ev] at CRd
                                have CRd := Lib.hid CRd
                                unfold Wd.ptr at CRd
                                dsimp only at CRd
                                have SX := Lib.hid (own_kept SV10.out X.out)
                                have q3 := text_cell SX.out j hjl
                                have hjm1 : ¬ (j : Int) < (m : Int) := by omega
                                have hjm2 : decide ((j : Int) < (m : Int)) = false := decide_eq_false hjm1
                                have hjm3 : (m : Int) ≤ (j : Int) := by omega
                                have hjm4 : decide ((m : Int) ≤ (j : Int)) = true := decide_eq_true hjm3
                                generalize (54 + total (al.take j) : Nat) = x at *
                                have Q3 := Lib.hid q3
                                generalize al[j] = rec at *
                                have hre := str_eq_ (show rec = rec from rfl)
                                clear ex ev hdl
                                go_wp2_with fail
                                refine CRd.out.mono ?_
                                rintro e w11 ⟨rfl, hb11⟩
                                have X11 := Lib.hid (below_then X.out hb11 X.out.size)
                                have q4 : w11.cell? ⟨sg, j, none⟩ = some (.string rec) := by rw [hb11.cell (p := ⟨sg, j, none⟩) (World.block_lt_of_cell? _ _ Q3.out)]; exact Q3.out
                                clear hb11 CRd q2 X AX WX q3 SX
                                go_wp2_with fail
                                go_roundw
                                case rel => exact ⟨j + 1, by have := HJT.out; omega, by go_num, X11.out⟩
                                case measure => have := HJT.out; simp [intOf]; omega
                            · -- the device crashed, opened at the place
                              have W := Lib.hid WX.out
                              have BW := Lib.hid (below_then B10.out X.out B10.out.size)
                              have HWX := Lib.hid (Nat.le_trans HW10.out X.out.size)
                              have q6 : (ints (plcFrom 54 al))[m]? = some (.int .i64 ((54 + total (al.take m) : Nat) : Int)) := by
                                have hl : m < (plcFrom 54 al).length := by rw [plc_length]; exact hm2
                                unfold ints; rw [List.getElem?_map, List.getElem?_eq_getElem hl, plc_at]; rfl
                              have q5 : wr.cell? ⟨ag, m, none⟩ = some (.int .i64 ((54 + total (al.take m) : Nat) : Int)) := place_cell AX.out m hm2
                              have HAX := Lib.hid AX.out
                              clear WX AX X
                              have CCr := Lib.hid (fun w' (hb : Below wr.heap.size wr w') => crash_any (W.out.kept hb).dsk (.slice none 0 0) 0 (fun _ => false) (Kb.nil w' B (fun _ => false)))
                              unfold Ids.ptr Ids.with at CCr
                              dsimp only at CCr
                              rw [HDg.out] at CCr
                              have CO := Lib.hid (fun (wa : World) (J3 : Ids) (hd : Dk wa wr.heap.size J3 (S7.crash 0 (fun _ => false))) (hh : wr.heap.size ≤ wa.heap.size) => open_wq hd P9.out 0 (fun _ => false) rfl (by omega) SM.out.1 hh)
                              unfold Ids.ptr at CO
                              have DL := Lib.hid (show (al.drop m).length = al.length - m from List.length_drop)
                              have PH := Lib.hid (Nat.le_trans HS3.out HWX)
                              have HD := Lib.hid W.out.dsk
                              clear W10 AV10 SV10 B10 HW10
                              generalize (54 + total (al.take m) : Nat) = pl at *
                              have KC := Lib.hid (fun wa (o6 : Out wr wa (Ids.foot (D.with p7))) => show wa.cell? ⟨ag, m, none⟩ = some (.int .i64 (pl : Int)) from by have := (row_foot HD.out HAX.out o6).cells (g := ag) rfl m _ q6; rw [Addr.add_lit, Nat.zero_add] at this; exact this)
                              have AGL := Lib.hid (show ag < wr.heap.size from World.block_lt_of_cell? _ _ q5)
                              have hm := HM.out
                              go_upto_region 29 with fail
                              clear hjt
                              go_cut [8, 21] (fun s8 s21 wx => s8 = .int .i64 0 ∧ (∃ ea k ec, s21 = .slice ea k ec ∧ k = al.length - m) ∧ Below w.heap.size w wx)
                              case first =>
                                have hmi0 : (0 : Int) ≤ (m : Int) := by omega
                                have hmi1 : (m : Int) < (t : Int) + 1 := by omega
                                have hmi2 : (m : Int) < ((t + 1 : Nat) : Int) := by omega
                                go_region_held3 (fun w' => w'.cell? ⟨ag, m, none⟩ = some (.int .i64 (pl : Int))) (first | exact kb | exact ka | exact q5) ((first
                                  | (go_simp; go_at_call 14; refine (CCr.out _ (Below.refl _ _).drew).mono ?_; rintro e wa ⟨J3, rfl, -, hd6, ho6, hp6⟩; rw [← HDg.out] at ho6; have o6 : Out wr wa (Ids.foot (D.with p7)) := (Out.of_below ((Below.refl wr.heap.size wr).drew) _).then_ ho6 (fun _ _ h => h); have ka : wa.cell? ⟨ag, m, none⟩ = some (.int .i64 (pl : Int)) := KC.out wa o6)
                                  | (go_simp; go_at_call 15; refine (CO.out wa J3 hd6 ho6.size).mono ?_; rintro e wb ⟨k, p11, g3, ea, ec, dv2, pv2, L11, S11, hk1, hk2, rfl, hE, -, -, -, hb11⟩; have kb : wb.cell? ⟨ag, m, none⟩ = some (.int .i64 (pl : Int)) := by rw [hb11.cell (p := ⟨ag, m, none⟩) AGL.out]; exact ka)))
                                all_goals
                                  have BZ := BW.out.trans ((foot_below HD.out o6 (Nat.le_trans HB.out HWX)).mono HS.out)
                                  have BY := BZ.trans (hb11.mono (Nat.le_trans BW.out.size (Nat.le_refl _)))
                                  have hke : k = al.length - m := by have := DL.out; omega
                                  clear ka kb hE hb11 hd6 ho6 o6 hp6 BZ q5 q6
                                  go_wp2_with fail
                                  go_meet
                                  exact ⟨rfl, ⟨ea, k, ec, rfl, hke⟩, BY⟩
                              case rest =>
                                obtain ⟨rfl, ⟨ea, k, ec, rfl, hke⟩, hbb⟩ := hcut
                                have BY := Lib.hid hbb
                                have lt := LT.out
                                have tz : t ≤ 7000 := by have := LN.out; omega
                                have hkk : ((k : Int) == (t : Int) + 1 - (m : Int)) = true := by simp; omega
                                have hkk2 : (k : Int) = (t : Int) + 1 - (m : Int) := by omega
                                have hk3 : (((t + 1 - m : Nat) : Int) == (t : Int) + 1 - (m : Int)) = true := by simp; omega
                                clear hbb CCr CO
                                go_wp2_with fail
                                go_ret
                                exact ⟨rfl, BY.out⟩
theorem walk_WalCuts (v : Value) (q : Slq) (n : Int) (w : World) (hq : IsTx w v q) (hn1 : -9223372036854775808 ≤ n) (hn2 : n ≤ 9223372036854775807) :
    Calls Try.prog 6 #[v, .int .i64 n] w fun e w' => e = .returned (.bool true) ∧ Below w.heap.size w w' := by
  obtain ⟨hs, s, hs2⟩ := hq
  have Q0 := Sq.of hs (f := fun i => .string (s i)) (fun i hi => (hs2 i hi).1)
  obtain ⟨sa, sc, e, hq⟩ := Q0
  have hv := e
  subst hv
  exact cuts_core sa sc q.len s n w hn1 hn2 ⟨sa, sc, rfl, hq⟩ (by have a := hs.le; have b := hs.max; omega) (fun i hi => (hs2 i hi).2)
end Go.Proofs.Ytplcddcdhnjfeaa
