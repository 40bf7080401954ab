/- Layer 12: Dirty. -/
import Derived.Test.YtgafajbdmegfgaaGreatPolMem
import Derived.Test.YtgafajbdmegfgaaGreatShelf
import Derived.Laws.AppendOwn
import Derived.Lib.SlKeysI
set_option linter.unusedVariables false
set_option linter.unusedSimpArgs false
namespace Go.Proofs.YtgafajbdmegfgaaGreat
open Go.RowKit

/-- The pages that are dirty, in the slots' order. -/
def dirtyL : List Sl → List Int
  | [] => []
  | s :: l => if s.di = true then s.id :: dirtyL l else dirtyL l
theorem dirtyL_cons (s : Sl) (l : List Sl) : dirtyL (s :: l) = if s.di = true then s.id :: dirtyL l else dirtyL l := rfl
theorem dirtyL_app : ∀ (a b : List Sl), dirtyL (a ++ b) = dirtyL a ++ dirtyL b
  | [], b => rfl
  | s :: a, b => by
    rw [List.cons_append, dirtyL_cons, dirtyL_cons, dirtyL_app a b]
    split <;> rfl
theorem dirtyL_len : ∀ l : List Sl, (dirtyL l).length ≤ l.length
  | [] => Nat.le_refl _
  | s :: l => by
    have := dirtyL_len l
    unfold dirtyL
    split <;> simp <;> omega
theorem dirtyL_mem {x : Int} : ∀ {l : List Sl}, x ∈ dirtyL l ↔ ∃ s ∈ l, s.di = true ∧ s.id = x
  | [] => by simp [dirtyL]
  | s :: l => by
    unfold dirtyL
    by_cases h : s.di = true
    · rw [if_pos h, List.mem_cons, dirtyL_mem]
      constructor
      · rintro (rfl | ⟨t, ht, h1, h2⟩)
        · exact ⟨s, List.mem_cons_self, h, rfl⟩
        · exact ⟨t, List.mem_cons_of_mem _ ht, h1, h2⟩
      · rintro ⟨t, ht, h1, h2⟩
        rcases List.mem_cons.1 ht with rfl | ht
        · exact .inl h2.symm
        · exact .inr ⟨t, ht, h1, h2⟩
    · rw [if_neg h, dirtyL_mem]
      constructor
      · rintro ⟨t, ht, h1, h2⟩
        exact ⟨t, List.mem_cons_of_mem _ ht, h1, h2⟩
      · rintro ⟨t, ht, h1, h2⟩
        rcases List.mem_cons.1 ht with rfl | ht
        · exact absurd h1 h
        · exact ⟨t, ht, h1, h2⟩
theorem pinfo_int : (Tryz.prog.info? 3).map (fun i => (i.zero, i.size, i.bytes)) = some (some (.int .i64 0), 1, 8) := by kernel_rfl
theorem psort_own {w : World} {base : Nat} {v : Value} {ss : List Int} (h : w.ownsRow base 3 1 v ss.length (ss.map (Value.int .i64))) (hn : ss.length ≤ 1024) :
    Calls Tryz.prog 55 #[v] w fun e w' => e = .returned (.tuple #[]) ∧ w'.ownsRow base 3 1 v ss.length ((ss.mergeSort fun x y => decide (x ≤ y)).map (Value.int .i64)) ∧ w.grownBy w' v.ownBlock := by
  have hl : (ss.mergeSort fun x y => decide (x ≤ y)).length = ss.length := List.length_mergeSort ss
  rcases h.2 with ⟨rfl, h0⟩ | ⟨g, cap, cur, rfl, hg, hh, h1, h2, h3, h4⟩
  · refine (Tryz.slices_Sort_int_none none 0 w).mono ?_
    have hs : ss = [] := List.eq_nil_of_length_eq_zero h0
    subst hs
    rintro e w' ⟨rfl, rfl⟩
    exact ⟨rfl, by simpa using World.ownsRow_nil _ _ _ _, ⟨rfl, rfl, rfl, Nat.le_refl _, fun _ _ _ => rfl⟩⟩
  · have hlt : g < w.heap.size := (Array.getElem?_eq_some_iff.1 hh).1
    rw [Nat.mul_one] at h4
    refine (Tryz.slices_Sort_int g 0 cap ss w (holds_of_block_i hh (by exact h4)) hlt (by omega)).mono ?_
    rintro e w' ⟨rfl, n, os, rfl⟩
    exact ⟨rfl, ownsRow_sorted_i hl hg hh h1 h2 (by omega), grownBy_sorted_i _⟩
def sortedD (P : Po) : List Int := (dirtyL P.ss).mergeSort fun x y => decide (x ≤ y)
theorem sortedD_mem {P : Po} {x : Int} : x ∈ sortedD P ↔ ∃ s ∈ P.ss, s.di = true ∧ s.id = x := by
  unfold sortedD
  rw [(List.mergeSort_perm _ _).mem_iff, dirtyL_mem]
theorem sortedD_len (P : Po) : (sortedD P).length = (dirtyL P.ss).length := by unfold sortedD; rw [List.length_mergeSort]
def DirtyPost (w : World) (P : Po) (e : Ending) (w' : World) : Prop :=
  ∃ v, e = .returned v ∧ w'.ownsRow w.heap.size 3 1 v (sortedD P).length ((sortedD P).map (Value.int .i64)) ∧ Below w.heap.size w w'
set_option maxRecDepth 100000 in
set_option maxHeartbeats 8000000 in
theorem dirty_any {w : World} {B : Nat} {J : Pd} {P : Po} (h : Pq w B J P) :
    Calls Tryz.prog 33 #[J.ptr] w (DirtyPost w P) := by
  obtain ⟨i0, hi, hz0, hz1, hz2⟩ := info_parts pinfo_int
  have H := Lib.hid h
  obtain ⟨sa, sc, hsv⟩ := h.slice
  obtain ⟨n, hn⟩ : ∃ n, n = P.ss.length := ⟨_, rfl⟩
  have SV := Lib.hid (show J.sv = .slice sa n sc by rw [hsv, ← hn])
  have HN := Lib.hid hn
  have n256 : n ≤ 256 := by rw [hn]; exact h.few
  have c5 : w.cell? ⟨J.g, 5, none⟩ = some (.slice sa n sc) := by have := h.cells.2.2.2.2.2.1; rw [hsv, ← hn] at this; exact this
  clear h hn hsv
  unfold Pd.ptr
  go_enter Tryz.func33, Tryz.ntmps33
  go_wp2_with fail
  go_loopw [3, 13] (fun v i wr => ∃ q : Nat, q ≤ n ∧ i = .int .i64 q ∧ wr.ownsRow w.heap.size 3 1 v (dirtyL (P.ss.take q)).length ((dirtyL (P.ss.take q)).map (Value.int .i64)) ∧ Below w.heap.size w wr) (fun _ i _ => n - (intOf i).toNat)
  case atStart => exact ⟨0, Nat.zero_le _, rfl, World.ownsRow_nil _ _ _ _, Below.refl _ _⟩
  case round =>
    obtain ⟨q, hq, rfl, hown, hb⟩ := hrel
    obtain ⟨va, vc, rfl⟩ := tx_slice hown
    have OW := Lib.hid hown; have BB := Lib.hid hb
    have LN := Lib.hid (show (dirtyL (P.ss.take q)).length ≤ 256 by have h1 := dirtyL_len (P.ss.take q); rw [List.length_take] at h1; omega)
    clear hown hb
    by_cases hlt : q < n
    · have HLT := Lib.hid hlt
      have hqs : q < P.ss.length := by rw [← HN.out]; exact hlt
      have PQ := Lib.hid (H.out.kept BB.out)
      have hqb : q < J.bs.length := by rw [H.out.bl]; exact hqs
      obtain ⟨g, c, e1, -, -, hc⟩ := PQ.out.at_ q hqb
      rw [SV.out, ← HN.out] at e1
      obtain ⟨rfl, rfl⟩ : sa = some ⟨g, 0, none⟩ ∧ sc = c := by simpa using e1
      obtain ⟨k0, -, k18, -⟩ := sl_cells (PQ.out.sl q hqb hqs)
      obtain ⟨bq, hbq⟩ : ∃ bq, bq = J.bs[q] := ⟨_, rfl⟩
      have TK := Lib.hid (show dirtyL (P.ss.take (q + 1)) = dirtyL (P.ss.take q) ++ (if (P.ss[q]).di = true then [(P.ss[q]).id] else []) from by
        rw [List.take_succ_eq_append_getElem hqs, dirtyL_app]
        congr 1)
      rw [← hbq] at hc k0 k18
      obtain ⟨idq, hidq⟩ : ∃ x, x = (P.ss[q]).id := ⟨_, rfl⟩
      rw [← hidq] at k0
      rcases hdi : (P.ss[q]).di with _ | _
      · rw [hdi] at k18
        have TK2 := Lib.hid (show dirtyL (P.ss.take (q + 1)) = dirtyL (P.ss.take q) from by rw [TK.out, if_neg (by rw [hdi]; decide), List.append_nil])
        clear e1 hbq hidq hdi TK hqb PQ
        as_aux_lemma =>
          go_wp2
          go_roundw
          case rel => exact ⟨q + 1, by have := HLT.out; omega, by go_num, by rw [TK2.out]; exact OW.out, BB.out⟩
          case measure => have := HLT.out; simp [intOf]; omega
      · rw [hdi] at k18
        have TK2 := Lib.hid (show dirtyL (P.ss.take (q + 1)) = dirtyL (P.ss.take q) ++ [idq] from by rw [TK.out, if_pos hdi, ← hidq])
        have OA := Lib.hid (World.ownsRow.alloc OW.out (.cells #[.int .i64 idq] 3))
        have BA := Lib.hid (BB.out.alloc BB.out.size (.cells #[.int .i64 idq] 3))
        clear e1 hbq hidq hdi TK hqb PQ
        obtain ⟨D, hD⟩ : ∃ D, D = dirtyL (P.ss.take q) := ⟨_, rfl⟩
        rw [← hD] at OW OA LN TK2 ⊢
        clear hD
        as_aux_lemma =>
          go_wp2_with (at_builtin; refine wpList_append_one _ rfl _ _ 36 rfl w.heap.size 3 i0 (.int .i64 0) 1 8 Tryz.underlying36 hi hz0 hz1 hz2 rfl (.slice va D.length vc) D.length (D.map (Value.int .i64)) rfl OA.out ⟨wr.heap.size, 0, none⟩ 1 [.int .i64 idq] rfl rfl ?qc2 ?qc3 ?qc4 (by omega) ?qc5 ?qc6 ?_)
          case qc2 =>
            intro t y hy
            rw [Addr.add_lit, Nat.zero_add]
            refine Eq.trans ((Bk.new wr 3 #[.int .i64 idq]).cell t) ?_
            simpa using hy
          case qc3 => simp [Value.oneCell']
          case qc4 => have := LN.out; unfold maxLen; omega
          case qc5 => have := LN.out; omega
          case qc6 => exact BA.out.size
          intro v2 w2 hown hgrow
          obtain ⟨ya, yc, rfl⟩ := tx_slice hown
          have O2 := Lib.hid (show w2.ownsRow w.heap.size 3 1 (.slice ya (D.length + 1) yc) (dirtyL (P.ss.take (q + 1))).length ((dirtyL (P.ss.take (q + 1))).map (Value.int .i64)) by rw [TK2.out, List.length_append, List.map_append]; exact hown)
          have B2 := Lib.hid (show Below w.heap.size w w2 from by
            have hg2 := hgrow
            exact BA.out.trans ((Out.of_grown hgrow (p := fun k => w.heap.size ≤ k) (fun k hk _ => (owns_block OA.out hk).1)).below (by exact BA.out.size) (fun k hk => hk)))
          clear hown hgrow OA BA OW BB
          go_wp2
          go_roundw
          case rel => exact ⟨q + 1, by have := HLT.out; omega, by go_num, O2.out, B2.out⟩
          case measure => have := HLT.out; simp [intOf]; omega
    · obtain rfl : q = n := by omega
      have ET := Lib.hid (show P.ss.take q = P.ss from by rw [HN.out]; exact List.take_length)
      rw [ET.out] at OW LN
      obtain ⟨D, hD⟩ : ∃ D, D = dirtyL P.ss := ⟨_, rfl⟩
      have HD := Lib.hid hD
      rw [← hD] at OW LN
      have CS := Lib.hid (psort_own OW.out (by have := LN.out; omega))
      rw [ET.out, ← hD]
      clear hD hlt hq
      as_aux_lemma =>
        go_wp2_with fail
        refine CS.out.mono ?_
        rintro e w3 ⟨rfl, ho, hg⟩
        have O3 := Lib.hid ho
        have B3 := Lib.hid (show Below w.heap.size w w3 from BB.out.trans ((Out.of_grown hg (p := fun k => w.heap.size ≤ k) (fun k hk _ => (owns_block OW.out hk).1)).below BB.out.size (fun k hk => hk)))
        clear ho hg CS OW BB
        go_wp2
        go_ret
        refine ⟨_, rfl, ?_, B3.out⟩
        rw [sortedD_len]
        unfold sortedD
        rw [← HD.out]
        exact O3.out
end Go.Proofs.YtgafajbdmegfgaaGreat
