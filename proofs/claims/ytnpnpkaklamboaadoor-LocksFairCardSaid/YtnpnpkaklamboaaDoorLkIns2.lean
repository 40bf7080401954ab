/- slices.Insert of one hold: at the end, into room, into a new row; (*queue).add. -/
import Derived.Test.YtnpnpkaklamboaaDoorLkIns
import Derived.Test.YtnpnpkaklamboaaDoorLkLeave
set_option linter.unusedVariables false
set_option linter.unusedSimpArgs false
namespace Go.Proofs.YtnpnpkaklamboaaDoor
open Go.RowKit Go.Shelf

def InPost (w : World) (F : Nat → Prop) (v : Value) (l : List Hold) (i : Nat) (h : Hold) (e : Ending) (w' : World) : Prop := ∃ v', e = .returned v' ∧ Rk w' (Ext F w w') 66 3 hC v' (l.take i ++ h :: l.drop i) ∧ w.grownBy w' v.ownBlock
theorem hold_cells {w : World} {vb : Nat} {h : Hold} (hvb : Bk w vb 66 #[.int .i64 h.x, .int .i64 (h.m : Int), .int .i64 (h.w : Int)]) : ∀ j u, (hC h)[j]? = some u → w.cell? ((⟨vb, 0, none⟩ : Addr).add j) = some u := fun j u hu => by
  rw [Addr.add_mid, Nat.zero_add, hvb.cell]
  simpa using hu
set_option maxRecDepth 100000 in
set_option maxHeartbeats 4000000 in
theorem insert_end (w : World) (F : Nat → Prop) (v : Value) (l : List Hold) (h : Hold) (vb : Nat) (hr : Rk w F 66 3 hC v l) (hvb : Bk w vb 66 #[.int .i64 h.x, .int .i64 (h.m : Int), .int .i64 (h.w : Int)]) (hb : l.length ≤ 1000000) :
    Calls Tryd.prog 56 #[v, .int .i64 (l.length : Int), .slice (some ⟨vb, 0, none⟩) 1 1] w (InPost w F v l l.length h) := by
  obtain ⟨I, hi, hz, hsz, hby⟩ := hold_info
  have HI := Lib.hid hi
  have HZ := Lib.hid hz
  have HSZ := Lib.hid hsz
  have HBY := Lib.hid hby
  have HN := Lib.hid (hold_cells hvb)
  have R := Lib.hid hr
  have HB := Lib.hid hb
  have LT := Lib.hid (show l.take l.length ++ h :: l.drop l.length = l ++ [h] by simp)
  clear hi hz hsz hby
  rcases hr with ⟨rfl, rfl⟩ | ⟨b, off, cap, cur, rfl, hF, hA⟩
  · clear hvb hb
    go_enter Tryd.func56, Tryd.ntmps56
    go_wp2_with (first | (refine wpList_append_rk rfl _ _ 58 rfl I _ 24 Tryd.underlying58 HI.out HZ.out HSZ.out HBY.out rfl hC_len (by decide) hC_one _ [] rfl R.out h ⟨vb, 0, none⟩ 1 rfl HN.out (by decide) (by decide) ?_; intro v' w' hr' hg'; have R2 := Lib.hid hr'; have G2 := Lib.hid hg'; clear hr' hg'))
    go_ret
    unfold InPost
    exact ⟨_, rfl, R2.out, G2.out⟩
  · obtain ⟨n, hn⟩ : ∃ n, n = l.length := ⟨_, rfl⟩
    have HN2 := Lib.hid hn
    have ncap : n ≤ cap := by rw [hn]; exact hA.le
    have cap63 : cap ≤ 9223372036854775807 := by have := hA.mx; unfold maxLen at this; omega
    rw [← hn] at hb
    have FIN := Lib.hid (show ∀ e w', InPost w F (.slice (some ⟨b, off, none⟩) l.length cap) l l.length h e w' → InPost w F (.slice (some ⟨b, off, none⟩) l.length cap) l l.length h e w' from fun _ _ h => h)
    generalize hpost : InPost w F (.slice (some ⟨b, off, none⟩) l.length cap) l l.length h = PO at *
    have HP := Lib.hid hpost
    rw [← hn]
    clear hvb hF hA hpost FIN
    by_cases hcn : cap = n
    · go_enter Tryd.func56, Tryd.ntmps56
      go_wp2_with (first | (refine wpList_append_rk rfl _ _ 58 rfl I _ 24 Tryd.underlying58 HI.out HZ.out HSZ.out HBY.out rfl hC_len (by decide) hC_one _ l (by rw [HN2.out]; rfl) R.out h ⟨vb, 0, none⟩ 1 rfl HN.out (by have := HB.out; omega) (by have := HB.out; omega) ?_; intro v' w' hr' hg'; have R2 := Lib.hid hr'; have G2 := Lib.hid hg'; clear hr' hg'))
      rw [← HP.out]
      unfold InPost
      exact ⟨_, rfl, by rw [LT.out]; exact R2.out, G2.out⟩
    · go_enter Tryd.func56, Tryd.ntmps56
      go_wp2_with (first | (refine wpList_append_rk rfl _ _ 58 rfl I _ 24 Tryd.underlying58 HI.out HZ.out HSZ.out HBY.out rfl hC_len (by decide) hC_one _ l (by rw [HN2.out]; rfl) R.out h ⟨vb, 0, none⟩ 1 rfl HN.out (by have := HB.out; omega) (by have := HB.out; omega) ?_; intro v' w' hr' hg'; have R2 := Lib.hid hr'; have G2 := Lib.hid hg'; clear hr' hg'))
      rw [← HP.out]
      unfold InPost
      exact ⟨_, rfl, by rw [LT.out]; exact R2.out, G2.out⟩
set_option maxRecDepth 100000 in
set_option maxHeartbeats 8000000 in
theorem insert_mid (w : World) (F : Nat → Prop) (l : List Hold) (i : Nat) (hi : i < l.length) (h : Hold) (vb b off cap : Nat) (cur : Array Value) (hF : F b) (hA : RkAt w 66 3 hC b off cap cur l) (hvb : Bk w vb 66 #[.int .i64 h.x, .int .i64 (h.m : Int), .int .i64 (h.w : Int)]) (hne : vb ≠ b) (hb : l.length ≤ 1000000) (hroom : l.length + 1 ≤ cap) :
    Calls Tryd.prog 56 #[.slice (some ⟨b, off, none⟩) l.length cap, .int .i64 (i : Int), .slice (some ⟨vb, 0, none⟩) 1 1] w (InPost w F (.slice (some ⟨b, off, none⟩) l.length cap) l i h) := by
  have HN := Lib.hid (hold_cells hvb)
  have hov : ∀ lb cb, (callFunc 76 #[.slice (some ⟨vb, 0, none⟩) 1 1, .slice (some ⟨b, off + (i + 1) * 3, none⟩) lb cb]).run Tryd.prog w = .ok (.value (.bool false)) w := fun lb cb => overlaps_no w vb b _ _ _ _ _ _ _ hvb hA.bk hne (by have := hA.sz; omega)
  obtain ⟨I, hi', hz, hsz, hby⟩ := hold_info
  have hs3 : (Tryd.prog.info? 66).map (·.size) = some 3 := by rw [hi']; simp [hsz]
  have hdl : ((l.drop i).flatMap hC).length = (l.length - i) * 3 := by rw [fl_len hC_len, List.length_drop]
  have hcp1 : ∀ ty dc sc, (Builtin.copy_ #[58, 58] ty #[.slice (some ⟨b, off + (i + 1) * 3, none⟩) (l.length - i) dc, .slice (some ⟨b, off + i * 3, none⟩) (l.length + 1 - i) sc]).run Tryd.prog w.drew = .ok (goInt ((l.length - i : Nat))) (w.drew.setCells b (off + (i + 1) * 3) ((l.drop i).flatMap hC)) := fun ty dc sc =>
    run_copy_rk w.drew _ _ ty 66 b (off + (i + 1) * 3) (l.length - i) dc ⟨b, off + i * 3, none⟩ (l.length + 1 - i) sc (l.length - i) _ Tryd.underlying58 hs3 (by simp only [Nat.min_def]; split <;> omega) hdl
      (fun j u hj => by
        rw [drop_flat hC_len (by decide)] at hj
        rw [Addr.add_mid, Nat.add_assoc]
        exact hA.flat_cell hC_len (by decide) hj)
      (fun j hj => by rw [hdl] at hj; rw [Nat.add_assoc]; exact hA.isSome (w := w) (m := (i + 1) * 3 + j) (by omega)) (fun j _ => hA.bk.fz _) (fun u hu => by
        obtain ⟨y, _, hy⟩ := List.mem_flatMap.1 hu
        exact hC_one y u hy)
  have A2 := RkAt.ins hA.drew hC_len (by decide) i (Nat.le_of_lt hi) h hroom
  have hcp2 : ∀ (W : World), (∀ x, W.cell? x = (w.drew.setCells b (off + (i + 1) * 3) ((l.drop i).flatMap hC)).cell? x) → (∀ x, W.frozen? x = (w.drew.setCells b (off + (i + 1) * 3) ((l.drop i).flatMap hC)).frozen? x) → ∀ ty dc, (Builtin.copy_ #[58, 58] ty #[.slice (some ⟨b, off + i * 3, none⟩) (l.length + 1 - i) dc, .slice (some ⟨vb, 0, none⟩) 1 1]).run Tryd.prog W = .ok (goInt 1) (W.setCells b (off + i * 3) (hC h)) := fun W hWc hWf ty dc =>
    run_copy_rk W _ _ ty 66 b (off + i * 3) (l.length + 1 - i) dc ⟨vb, 0, none⟩ 1 1 1 (hC h) Tryd.underlying58 hs3 (by simp only [Nat.min_def]; split <;> omega) rfl
      (fun j u hj => by
        rw [hWc, World.cell?_setCells_out _ _ _ _ _ (fun e _ => absurd (by rw [Addr.add_mid] at e; exact e) hne)]
        exact HN.out j u hj)
      (fun j hj => by
        rw [hWc]
        have := bk_cells ((l.drop i).flatMap hC) (off + (i + 1) * 3) w.drew cur hA.bk
        rw [this.cell]
        have h1 : off + i * 3 + j < (spl cur (off + (i + 1) * 3) ((l.drop i).flatMap hC)).size := by
          rw [spl_size]
          have := hA.sz
          have hj3 : j < 3 := hj
          omega
        simp [h1])
      (fun j _ => by rw [hWf]; exact (bk_cells ((l.drop i).flatMap hC) (off + (i + 1) * 3) w.drew cur hA.bk).fz _) (hC_one h)
  have LL := Lib.hid (show (l.take i ++ h :: l.drop i).length = l.length + 1 by simp; omega)
  have cap63 : cap ≤ 9223372036854775807 := by have := hA.mx; unfold maxLen at this; omega
  obtain ⟨L, hL⟩ : ∃ L, L = l.length := ⟨_, rfl⟩
  have HL := Lib.hid hL
  obtain ⟨cs1, hcs1⟩ : ∃ cs1, cs1 = (l.drop i).flatMap hC := ⟨_, rfl⟩
  have CS1 := Lib.hid hcs1
  rw [← hcs1] at hcp1 hcp2 A2
  rw [← hL] at hcp1 hcp2 hi hb hroom
  have hz1 : ¬ ((i : Int) = (L : Int)) := by omega
  have hw1 : IntKind.i64.wrap ((i : Int) + 1) = (i : Int) + 1 := by rw [IntKind.wrap_i64]; omega
  have hw2 : IntKind.i64.wrap ((L : Int) + 1) = (L : Int) + 1 := by rw [IntKind.wrap_i64]; omega
  have hin : i ≤ L := by omega
  have hb1 : (0 : Int) ≤ (i : Int) + 1 := by omega
  have htn : ((i : Int) + 1).toNat = i + 1 := by omega
  have htn2 : ((L : Int) + 1).toNat = L + 1 := by omega
  have hb2 : ¬ (cap = i + 1) := by omega
  have hb3 : (i : Int) ≤ (L : Int) + 1 := by omega
  have hb4 : ¬ (cap = i) := by omega
  have A3 := Lib.hid A2
  have HF := Lib.hid hF
  have HO := Lib.hid hov
  have C1 := Lib.hid hcp1
  have C2 := Lib.hid hcp2
  have HBK := Lib.hid hA.bk
  have BLT := Lib.hid hA.bk.lt
  generalize hpost : InPost w F (.slice (some ⟨b, off, none⟩) l.length cap) l i h = PO at *
  have HP := Lib.hid hpost
  rw [← hL]
  have hov2 : ∀ lb cb, (callFunc 76 #[.slice (some ⟨vb, 0, none⟩) 1 1, .slice (some ⟨b, off + (i + 1) * 3, none⟩) lb cb]).run Tryd.prog w = .ok (.value (.bool false)) w := HO.out
  clear hvb hF hA hpost A2 hi' hz hsz hby hs3 hdl hcp1 hcp2 hL hcs1 hov
  go_enter Tryd.func56, Tryd.ntmps56
  go_wp2_with (simp only [hov2])
  clear hov2
  have e1 := C1.out 3 (cap - (i + 1)) (cap - i)
  go_region
  clear e1
  have e2 := C2.out (w.drew.setCells b (off + (i + 1) * 3) cs1) (fun _ => rfl) (fun _ => rfl) 3 (cap - i)
  go_wp2
  rw [← HP.out]
  unfold InPost
  refine ⟨_, rfl, .inr ⟨b, off, cap, _, by rw [LL.out, ← HL.out]; rfl, .inl HF.out, A3.out⟩, ?_⟩
  show w.grownBy _ (some b)
  exact only_cells (only_cells (show w.grownBy w.drew (some b) from ⟨rfl, rfl, rfl, Nat.le_refl _, fun _ _ _ => rfl⟩) (.inl rfl) _ _) (.inl rfl) _ _
set_option maxRecDepth 100000 in
set_option maxHeartbeats 8000000 in
theorem insert_grow (w : World) (F : Nat → Prop) (l : List Hold) (i : Nat) (hi : i < l.length) (h : Hold) (vb b off : Nat) (cur : Array Value) (hF : F b) (hA : RkAt w 66 3 hC b off l.length cur l) (hvb : Bk w vb 66 #[.int .i64 h.x, .int .i64 (h.m : Int), .int .i64 (h.w : Int)]) (hb : l.length ≤ 1000000) :
    Calls Tryd.prog 56 #[.slice (some ⟨b, off, none⟩) l.length l.length, .int .i64 (i : Int), .slice (some ⟨vb, 0, none⟩) 1 1] w (InPost w F (.slice (some ⟨b, off, none⟩) l.length l.length) l i h) := by
  have HN := Lib.hid (hold_cells hvb)
  obtain ⟨I, hi', hz, hsz, hby⟩ := hold_info
  have hs3 : (Tryd.prog.info? 66).map (·.size) = some 3 := by rw [hi']; simp [hsz]
  have hdl : ((l.drop i).flatMap hC).length = (l.length - i) * 3 := by rw [fl_len hC_len, List.length_drop]
  have htl : ((l.take i).flatMap hC).length = i * 3 := by rw [fl_len hC_len, List.length_take, Nat.min_eq_left (by omega)]
  have hold : (Builtin.firstCells I.size i (.slice (some ⟨b, off, none⟩) i l.length)).run Tryd.prog w.drew = .ok ((l.take i).flatMap hC).toArray w.drew := by
    rw [hsz]
    exact run_firstCells_some w.drew 3 i ⟨b, off, none⟩ i l.length _ htl (fun j u hj => by
      have hj3 : j < i * 3 := by rw [← htl]; exact (List.getElem?_eq_some_iff.1 hj).1
      rw [take_flat hC_len (by decide) (by omega) hj3] at hj
      rw [Addr.add_mid]
      exact hA.flat_cell hC_len (by decide) hj)
  obtain ⟨G, hG⟩ : ∃ G, G = grownCap w (l.length + 1) l.length 66 := ⟨_, rfl⟩
  obtain ⟨ROW, hROW⟩ : ∃ ROW : Array Value, ROW = ((l.take i).flatMap hC).toArray ++ Builtin.zeroCells (Value.agg #[.int .i64 0, .int .i64 0, .int .i64 0]).cells (l.length + 1 - i) ++ Builtin.zeroCells (Value.agg #[.int .i64 0, .int .i64 0, .int .i64 0]).cells (G - (l.length + 1)) := ⟨_, rfl⟩
  obtain ⟨W1, hW1⟩ : ∃ W1, W1 = w.drew.alloc (.cells ROW 66) := ⟨_, rfl⟩
  have hik : i + (l.length + 1 - i) = l.length + 1 := by omega
  have e0 : (Builtin.append_ #[58, 3] 58 #[.slice (some ⟨b, off, none⟩) i l.length, .int .i64 ((l.length : Int) + 1 - (i : Int))]).run Tryd.prog w = .ok (.slice (some ⟨w.heap.size, 0, none⟩) (l.length + 1) G) W1 := by
    have h := Lib.run_append_grow_zeros w 58 3 58 66 I _ .i64 .i64 Tryd.underlying58 Tryd.underlying3 hi' hz (some ⟨b, off, none⟩) i l.length _ hold (l.length + 1 - i) (by omega) (by omega) (by omega) (by omega) (by rw [hby]; omega) (by rw [hby, hik]; exact growslice_fits (by omega) (by omega))
    rw [hik] at h
    rw [show (l.length : Int) + 1 - (i : Int) = ((l.length + 1 - i : Nat) : Int) by omega, h, hW1, hROW, hG]
  have hGn : l.length + 1 ≤ G := by rw [hG]; exact grownCap_ge w _ _ _
  have hGm : G ≤ maxLen := by rw [hG]; exact grownCap_le_maxLen w _ _ _ (by unfold maxLen; omega)
  have hRS : ROW.size = G * 3 := by
    rw [hROW]
    simp only [Array.size_append, List.size_toArray, htl, size_zeroCells]
    rw [show (Value.agg #[.int .i64 0, .int .i64 0, .int .i64 0]).cells.size = 3 from rfl]
    omega
  have hB1 : Bk W1 w.heap.size 66 ROW := by rw [hW1]; exact Bk.new w.drew _ _
  have hpre : ∀ m, m < i * 3 → ROW[m]? = (l.flatMap hC)[m]? := fun m hm => by
    rw [hROW, Array.append_assoc, Array.getElem?_append_left (by rw [List.size_toArray, htl]; exact hm), List.getElem?_toArray]
    exact take_flat hC_len (by decide) (by omega) hm
  have hOld : ∀ x : Addr, x.block < w.heap.size → W1.cell? x = w.cell? x := fun x hx => by
    rw [hW1]
    exact World.cell?_of_block (w := w) (Below.heap_alloc w.drew _ _ hx)
  have hbl := hA.bk.lt
  have hvl := hvb.lt
  obtain ⟨W2, hW2⟩ : ∃ W2, W2 = W1.setCells w.heap.size (i * 3) (hC h) := ⟨_, rfl⟩
  have e1 : ∀ dc, (Builtin.copy_ #[58, 58] 3 #[.slice (some ⟨w.heap.size, i * 3, none⟩) (l.length + 1 - i) dc, .slice (some ⟨vb, 0, none⟩) 1 1]).run Tryd.prog W1 = .ok (goInt 1) W2 := fun dc => by
    rw [hW2]
    exact run_copy_rk W1 _ _ _ 66 w.heap.size (i * 3) (l.length + 1 - i) dc ⟨vb, 0, none⟩ 1 1 1 (hC h) Tryd.underlying58 hs3 (by simp only [Nat.min_def]; split <;> omega) rfl
      (fun j u hj => by rw [hOld _ (by rw [Addr.add_mid]; exact hvl)]; exact HN.out j u hj)
      (fun j hj => by
        have hj3 : j < 3 := hj
        have h1 : i * 3 + j < ROW.size := by rw [hRS]; omega
        rw [hB1.cell]; simp [h1])
      (fun j _ => hB1.fz _) (hC_one h)
  have hB2 : Bk W2 w.heap.size 66 (spl ROW (i * 3) (hC h)) := by rw [hW2]; exact bk_cells _ _ _ _ hB1
  have e2 : ∀ dc sc, (Builtin.copy_ #[58, 58] 3 #[.slice (some ⟨w.heap.size, (i + 1) * 3, none⟩) (l.length - i) dc, .slice (some ⟨b, off + i * 3, none⟩) (l.length - i) sc]).run Tryd.prog W2.drew = .ok (goInt ((l.length - i : Nat))) (W2.drew.setCells w.heap.size ((i + 1) * 3) ((l.drop i).flatMap hC)) := fun dc sc =>
    run_copy_rk W2.drew _ _ _ 66 w.heap.size ((i + 1) * 3) (l.length - i) dc ⟨b, off + i * 3, none⟩ (l.length - i) sc (l.length - i) _ Tryd.underlying58 hs3 (by simp only [Nat.min_def]; split <;> omega) hdl
      (fun j u hj => by
        rw [drop_flat hC_len (by decide)] at hj
        rw [Addr.add_mid, Nat.add_assoc]
        have := hA.flat_cell hC_len (by decide) hj
        rw [← this, ← hOld ⟨b, off + (i * 3 + j), none⟩ hbl, hW2]
        exact World.cell?_of_block (w := W1) (heap_cells w.heap.size b (by omega) (hC h) (i * 3) W1))
      (fun j hj => by
        rw [hdl] at hj
        have h1 : (i + 1) * 3 + j < (spl ROW (i * 3) (hC h)).size := by rw [spl_size, hRS]; omega
        rw [hB2.drew.cell]; simp [h1])
      (fun j _ => hB2.drew.fz _) (fun u hu => by
        obtain ⟨y, _, hy⟩ := List.mem_flatMap.1 hu
        exact hC_one y u hy)
  have A3 := Lib.hid (show RkAt (W2.drew.setCells w.heap.size ((i + 1) * 3) ((l.drop i).flatMap hC)) 66 3 hC w.heap.size 0 G _ (l.take i ++ h :: l.drop i) from by
    have := RkAt.ins_new (w := W1.drew) hC_len (by decide) i (Nat.le_of_lt hi) h hB1.drew hGn hGm (by rw [hRS]; omega) hpre
    have e : (W1.drew.setCells w.heap.size (i * 3) (hC h)) = W2.drew := by rw [hW2]; rfl
    rw [e] at this
    exact this)
  have LL := Lib.hid (show (l.take i ++ h :: l.drop i).length = l.length + 1 by simp; omega)
  have GR := Lib.hid (show w.grownBy (W2.drew.setCells w.heap.size ((i + 1) * 3) ((l.drop i).flatMap hC)) (some b) from by
    refine only_cells (only_drew ?_) (.inr (Nat.le_refl _)) _ _
    rw [hW2]
    refine only_cells ?_ (.inr (Nat.le_refl _)) _ _
    rw [hW1]
    exact ⟨rfl, rfl, rfl, by simp, fun k hk _ => Below.heap_alloc w.drew _ k hk⟩)
  have SZ := Lib.hid (show w.heap.size < (W2.drew.setCells w.heap.size ((i + 1) * 3) ((l.drop i).flatMap hC)).heap.size from by
    rw [size_cells]
    show w.heap.size < W2.heap.size
    exact hB2.lt)
  have G63 : G ≤ 9223372036854775807 := by unfold maxLen at hGm; omega
  obtain ⟨N, hN⟩ : ∃ N, N = w.heap.size := ⟨_, rfl⟩
  have HNN := Lib.hid hN
  obtain ⟨L, hL⟩ : ∃ L, L = l.length := ⟨_, rfl⟩
  have HL := Lib.hid hL
  obtain ⟨cs1, hcs1⟩ : ∃ cs1, cs1 = (l.drop i).flatMap hC := ⟨_, rfl⟩
  rw [← hcs1, ← hN] at e2 A3 GR SZ
  rw [← hN] at e0 e1
  rw [← hL] at e0 e1 e2 hi hb hGn
  have hz1 : ¬ ((i : Int) = (L : Int)) := by omega
  have hw1 : IntKind.i64.wrap ((i : Int) + 1) = (i : Int) + 1 := by rw [IntKind.wrap_i64]; omega
  have hw2 : IntKind.i64.wrap ((L : Int) + 1) = (L : Int) + 1 := by rw [IntKind.wrap_i64]; omega
  have hw3 : IntKind.i64.wrap ((L : Int) + 1 - (i : Int)) = (L : Int) + 1 - (i : Int) := by rw [IntKind.wrap_i64]; omega
  have hin : i ≤ L := by omega
  have hb1 : (0 : Int) ≤ (i : Int) + 1 := by omega
  have htn : ((i : Int) + 1).toNat = i + 1 := by omega
  have hb2 : ¬ (G = i + 1) := by omega
  have hb3 : (i : Int) ≤ (L : Int) + 1 := by omega
  have hb4 : ¬ (G = i) := by omega
  have hb5 : ¬ (L = i) := by omega
  have hb6 : i + 1 ≤ L := by omega
  have HF := Lib.hid hF
  generalize hpost : InPost w F (.slice (some ⟨b, off, none⟩) l.length l.length) l i h = PO at *
  have HP := Lib.hid hpost
  rw [← hL]
  clear hvb hF hA hpost hi' hz hsz hby hs3 hdl htl hold hL hcs1 hG hROW hW1 hW2 hB1 hB2 hpre hOld hRS hGm hik hN hbl hvl
  go_enter Tryd.func56, Tryd.ntmps56
  have E0 := Lib.hid e0
  clear e0
  go_wp2_with (first | (at_builtin; refine Lib.wpList_append_run _ rfl _ _ _ _ rfl _ _ rfl rfl _ _ E0.out ?_))
  go_region
  go_wp2
  rw [← HP.out]
  unfold InPost
  refine ⟨_, rfl, .inr ⟨N, 0, G, _, by rw [LL.out, ← HL.out]; rfl, .inr ⟨by rw [HNN.out]; exact Nat.le_refl _, SZ.out⟩, A3.out⟩, ?_⟩
  show w.grownBy _ (some b)
  exact GR.out
/-- A hold is laid at a place. -/
theorem insert_any (w : World) (F : Nat → Prop) (v : Value) (l : List Hold) (i : Nat) (hi : i ≤ l.length) (h : Hold) (vb : Nat) (hr : Rk w F 66 3 hC v l) (hvb : Bk w vb 66 #[.int .i64 h.x, .int .i64 (h.m : Int), .int .i64 (h.w : Int)]) (hne : v.ownBlock ≠ some vb) (hb : l.length ≤ 1000000) :
    Calls Tryd.prog 56 #[v, .int .i64 (i : Int), .slice (some ⟨vb, 0, none⟩) 1 1] w (InPost w F v l i h) := by
  rcases Nat.eq_or_lt_of_le hi with e | hlt
  · subst e
    exact insert_end w F v l h vb hr hvb hb
  · rcases hr with ⟨rfl, rfl⟩ | ⟨b, off, cap, cur, rfl, hF, hA⟩
    · exact absurd hlt (Nat.not_lt_zero _)
    · by_cases hroom : l.length + 1 ≤ cap
      · exact insert_mid w F l i hlt h vb b off cap cur hF hA hvb (fun e => hne (by rw [e]; rfl)) hb hroom
      · obtain rfl : cap = l.length := by have := hA.le; omega
        exact insert_grow w F l i hlt h vb b off cur hF hA hvb hb
/-- The place that the search finds is the hold's. -/
theorem insH_at : ∀ (l : List Hold) (h : Hold) (i : Nat), i ≤ l.length → (∀ t (ht : t < l.length), t < i → l[t].x < h.x) → (∀ t (ht : t < l.length), i ≤ t → h.x ≤ l[t].x) → insH h l = l.take i ++ h :: l.drop i
  | [], h, i, hi, _, _ => by
    have : i = 0 := by simpa using hi
    subst this
    rfl
  | g :: l, h, 0, _, _, h2 => by
    have := h2 0 (by simp) (Nat.le_refl _)
    simp only [List.getElem_cons_zero] at this
    unfold insH
    rw [if_neg (by omega)]
    rfl
  | g :: l, h, i + 1, hi, h1, h2 => by
    have := h1 0 (by simp) (by omega)
    simp only [List.getElem_cons_zero] at this
    unfold insH
    rw [if_pos this, insH_at l h i (by simpa using hi) (fun t ht hti => by have := h1 (t + 1) (by simpa using ht) (by omega); simpa using this) (fun t ht hti => by have := h2 (t + 1) (by simpa using ht) (by omega); simpa using this)]
    rfl
set_option maxRecDepth 100000 in
set_option maxHeartbeats 4000000 in
theorem add_any {w : World} {F : Nat → Prop} {g : Nat} {vh ve vw : Value} {q : Que} (h : Qm w F g vh ve vw q) (hs : q.hs.Pairwise fun a b => a.x < b.x) (hb : q.hs.length ≤ 1000000) (x : Int) (m : Nat) :
    Calls Tryd.prog 43 #[.pointer (some ⟨g, 0, none⟩), .int .i64 x, .int .i64 (m : Int)] w fun e w' => e = .returned (.tuple #[]) ∧ Kpf F w w' ∧ ∃ vh', Qm w' (Ext F w w') g vh' ve vw ⟨insH ⟨x, m, 0⟩ q.hs, q.eg, q.ws⟩ := by
  have SR := Lib.hid (search_any w F vh q.hs x h.hs hb hs)
  obtain ⟨sa, sc, hv⟩ := h.hs.slice
  subst hv
  have y0 : w.cell? ⟨g, 0, none⟩ = some (.slice sa q.hs.length sc) := h.bk.cell 0
  have H := Lib.hid h
  have HB := Lib.hid hb
  clear h hs hb
  go_enter Tryd.func43, Tryd.ntmps43
  go_wp2_with fail
  refine SR.out.mono ?_
  rintro e w1 ⟨i, f, rfl, hi, hlo, hhi, hb1⟩
  have B1 := Lib.hid hb1
  have H1 := Lib.hid (H.out.kept hb1)
  have IH := Lib.hid (insH_at q.hs ⟨x, m, 0⟩ i hi hlo hhi)
  have y1 : w1.cell? ⟨g, 0, none⟩ = some (.slice sa q.hs.length sc) := H1.out.bk.cell 0
  obtain ⟨vb, hvb⟩ : ∃ vb, vb = w1.heap.size := ⟨_, rfl⟩
  have VB := Lib.hid hvb
  have IN := Lib.hid (insert_any (w1.alloc (.cells #[.int .i64 x, .int .i64 (m : Int), .int .i64 0] 66)) F _ q.hs i hi ⟨x, m, 0⟩ vb (H1.out.hs.alloc _) (by rw [hvb]; exact Bk.new w1 _ _) (fun e => by have := own_lt H1.out.hs vb e; omega) HB.out)
  have H2 := Lib.hid (H1.out.alloc (.cells #[.int .i64 x, .int .i64 (m : Int), .int .i64 0] 66))
  have K2 := Lib.hid ((Kpf.of_below (F := F) B1.out).alloc (.cells #[.int .i64 x, .int .i64 (m : Int), .int .i64 0] 66))
  clear hi hlo hhi hb1 SR y0 hvb
  as_aux_lemma =>
    go_wp2_with fail
    rw [← VB.out]
    refine IN.out.mono ?_
    rintro e w3 ⟨v', rfl, hr3, hg3⟩
    obtain ⟨xa3, n3, xc3, rfl⟩ : ∃ a n c, v' = .slice a n c := by
      obtain ⟨a, c, hx⟩ := hr3.slice
      exact ⟨_, _, _, hx⟩
    have kp3 : Kpf (fun i => (Value.slice sa q.hs.length sc).ownBlock = some i) (w1.alloc (.cells #[.int .i64 x, .int .i64 (m : Int), .int .i64 0] 66)) w3 := Kpf.of_only hg3 fun k hk => hk
    have Q3 := Lib.hid (H2.out.put0 kp3 (fun i h => .inl h) hr3)
    have b3 := kp_apart H2.out.hs kp3 H2.out.bk (by decide)
    have c0 : w3.cell? ⟨g, 0, none⟩ = some (.slice sa q.hs.length sc) := by rw [World.cell?_of_block (w := (w1.alloc (.cells #[.int .i64 x, .int .i64 (m : Int), .int .i64 0] 66))) b3]; exact H2.out.bk.cell 0
    have fz3 : w3.frozen? ⟨g, 0, none⟩ = false := by rw [World.frozen?_of_block (w := (w1.alloc (.cells #[.int .i64 x, .int .i64 (m : Int), .int .i64 0] 66))) b3]; exact H2.out.bk.fz 0
    have S1 := Lib.hid K2.out.size
    clear hr3 hg3 kp3 b3 IN
    go_wp2
    go_end0
    refine ⟨rfl, K2.out.same Q3.out.2, .slice xa3 n3 xc3, ?_⟩
    have := Q3.out.1
    rw [← IH.out] at this
    exact this.mono fun j hj => by
      rcases hj with hj | hj
      · exact .inl hj
      · exact .inr ⟨Nat.le_trans S1.out hj.1, by simpa [World.setCell] using hj.2⟩
end Go.Proofs.YtnpnpkaklamboaaDoor
