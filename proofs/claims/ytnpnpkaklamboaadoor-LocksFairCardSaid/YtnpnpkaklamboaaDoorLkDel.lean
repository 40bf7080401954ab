/- slices.DeleteFunc at a queue's three rows. -/
import Derived.Test.YtnpnpkaklamboaaDoorLkIdx
set_option linter.unusedVariables false
set_option linter.unusedSimpArgs false
namespace Go.Proofs.YtnpnpkaklamboaaDoor
open Go.RowKit Go.Shelf

/-- A predicate that holds whatever one row of blocks holds meanwhile. -/
def PR {α : Type} (g : Nat) (lb : Array Value) (enc : α → Value) (p : α → Bool) (l : List α) (v : Value) (w : World) : Prop :=
  ∀ (W : World) (x : α), x ∈ l → Kpf (fun i => v.ownBlock = some i) w W → Calls Tryd.prog g (#[enc x] ++ lb) W fun e w' => e = .returned (.bool (p x)) ∧ Below W.heap.size W w'
theorem PR.pb {α : Type} {g : Nat} {lb : Array Value} {enc : α → Value} {p : α → Bool} {l : List α} {v : Value} {w : World} (h : PR g lb enc p l v w) : PB g lb enc p l w := fun W x hx hb => (h W x hx (.of_below hb)).mono fun e w' ⟨h1, h2⟩ => ⟨h1, hb.trans (h2.mono hb.size)⟩
/-- A row that is being thinned: i kept of the first j. -/
def Thin {α : Type} (p : α → Bool) (l l' : List α) (i j : Nat) : Prop := i < j ∧ j ≤ l.length ∧ l'.length = l.length ∧ l'.take i = (l.take j).filter (fun x => !p x) ∧ l'.drop j = l.drop j
theorem Thin.start {α : Type} {p : α → Bool} {l : List α} {i : Nat} (hi : i < l.length) (ht : p l[i] = true) (hno : ∀ j (hj : j < l.length), j < i → p l[j] = false) : Thin p l l i (i + 1) := by
  refine ⟨Nat.lt_succ_self _, hi, rfl, ?_, rfl⟩
  rw [List.take_succ_eq_append_getElem hi, List.filter_append]
  have e1 : (l.take i).filter (fun x => !p x) = l.take i := List.filter_eq_self.2 fun x hx => by
    obtain ⟨j, hj, rfl⟩ := List.mem_iff_getElem.1 hx
    rw [List.length_take] at hj
    rw [List.getElem_take, hno j (by omega) (by omega)]
    rfl
  rw [e1]
  simp [ht]
theorem Thin.at_ {α : Type} {p : α → Bool} {l l' : List α} {i j : Nat} (h : Thin p l l' i j) (hj : j < l.length) : ∃ h2 : j < l'.length, l'[j] = l[j] := by
  obtain ⟨_, _, h3, _, h5⟩ := h
  refine ⟨by omega, ?_⟩
  have a := congrArg (fun x : List α => x[0]?) h5
  simp only [List.getElem?_drop, Nat.add_zero] at a
  rw [List.getElem?_eq_getElem (by omega), List.getElem?_eq_getElem hj] at a
  exact Option.some.inj a
theorem Thin.skip {α : Type} {p : α → Bool} {l l' : List α} {i j : Nat} (h : Thin p l l' i j) (hj : j < l.length) (hp : p l[j] = true) : Thin p l l' i (j + 1) := by
  obtain ⟨h1, h2, h3, h4, h5⟩ := h
  refine ⟨by omega, hj, h3, ?_, ?_⟩
  · rw [h4, List.take_succ_eq_append_getElem hj, List.filter_append]
    simp [hp]
  · have := congrArg (List.drop 1) h5
    rwa [List.drop_drop, List.drop_drop] at this
theorem Thin.keep {α : Type} {p : α → Bool} {l l' : List α} {i j : Nat} (h : Thin p l l' i j) (hj : j < l.length) (hp : p l[j] = false) : Thin p l (l'.set i l[j]) (i + 1) (j + 1) := by
  obtain ⟨h1, h2, h3, h4, h5⟩ := h
  have hi : i < l'.length := by omega
  refine ⟨by omega, hj, by rw [List.length_set]; exact h3, ?_, ?_⟩
  · rw [List.take_succ_eq_append_getElem (by rw [List.length_set]; exact hi), List.getElem_set_self, List.take_set_of_le (Nat.le_refl _), h4, List.take_succ_eq_append_getElem hj, List.filter_append]
    simp [hp]
  · have := congrArg (List.drop 1) h5
    rw [List.drop_drop, List.drop_drop] at this
    rw [List.drop_set_of_lt (by omega)]
    exact this
theorem Thin.done {α : Type} {p : α → Bool} {l l' : List α} {i j : Nat} (h : Thin p l l' i j) (hj : ¬ j < l.length) : l'.take i = l.filter (fun x => !p x) := by
  rw [h.2.2.2.1, List.take_of_length_le (by omega)]
theorem Thin.len {α : Type} {p : α → Bool} {l l' : List α} {i j : Nat} (h : Thin p l l' i j) (hj : ¬ j < l.length) : (l.filter (fun x => !p x)).length = i := by
  rw [← h.done hj, List.length_take, h.2.2.1]
  have := h.1
  have := h.2.1
  omega

set_option maxRecDepth 100000 in
set_option maxHeartbeats 4000000 in
theorem del_hold (w : World) (F : Nat → Prop) (v : Value) (l : List Hold) (p : Hold → Bool) (g : Nat) (lb : Array Value) (eg : ∀ args w, (callFunc g args).run Tryd.prog w = .ok (.enter g args) w) (hr : Rk w F 66 3 hC v l) (hb : l.length ≤ 1000000) (hp : PR g lb hV p l v w) :
    Calls Tryd.prog 33 #[v, .func (.func g) #[] lb] w fun e w' => ∃ v', e = .returned v' ∧ Rk w' F 66 3 hC v' (l.filter fun x => !p x) ∧ Kpf (fun i => v.ownBlock = some i) w w' := by
  have CI := Lib.hid (idx_hold w F v l p g lb eg hr hb hp.pb)
  obtain ⟨sa, sc, hv⟩ := hr.slice
  have R := Lib.hid hr
  have HP := Lib.hid hp
  rcases idxP_spec p l with ⟨e1, hall⟩ | ⟨i0, hi0, e1, ht0, hno⟩
  · rw [e1] at CI
    have FE : l.filter (fun x => !p x) = l := List.filter_eq_self.2 fun x hx => by rw [hall x hx]; rfl
    rw [FE]
    have SV := Lib.hid hv
    rw [hv] at CI ⊢
    clear hr hp hv hb hall e1 FE
    go_enter Tryd.func33, Tryd.ntmps33
    go_wp2_with fail
    refine CI.out.mono ?_
    rintro e w1 ⟨rfl, hb1⟩
    have B1 := Lib.hid hb1
    clear hb1
    go_wp2
    go_ret
    exact ⟨_, rfl, by rw [← SV.out]; exact R.out.kept B1.out, .of_below B1.out⟩
  · rw [e1] at CI
    rcases hr with ⟨_, hnil⟩ | ⟨b, off, cap, cur, hv2, hF, hA⟩
    · rw [hnil] at hi0; exact absurd hi0 (Nat.not_lt_zero _)
    · rw [hv2] at hv
      obtain ⟨rfl, rfl⟩ : some ⟨b, off, none⟩ = sa ∧ cap = sc := by simpa using hv
      have SV := Lib.hid hv2
      have FB := Lib.hid hF
      have OB : v.ownBlock = some b := by rw [hv2]; rfl
      rw [hv2] at CI HP ⊢
      rw [show (Value.slice (some ⟨b, off, none⟩) l.length cap).ownBlock = some b from rfl]
      have HA := Lib.hid hA
      have ST := Lib.hid (Thin.start hi0 ht0 hno)
      have HL := Lib.hid hA.le
      have MX := Lib.hid hA.mx
      have i0n : i0 < l.length := hi0
      obtain ⟨n, hn⟩ : ∃ n, n = l.length := ⟨_, rfl⟩
      have HN := Lib.hid hn
      rw [← hn] at CI i0n ⊢
      have n64 : n ≤ 1000000 := by rw [hn]; exact hb
      have ncap : n ≤ cap := by rw [hn]; exact HL.out
      have cap63 : cap ≤ 9223372036854775807 := by have := MX.out; unfold maxLen at this; omega
      have m1 : ((i0 : Int) == -1) = false := beq_eq_false_iff_ne.2 (by omega)
      clear hp hb hno ht0 e1 hv hA hn OB hi0 hv2 R hF
      go_enter Tryd.func33, Tryd.ntmps33
      go_wp2_with fail
      refine CI.out.mono ?_
      rintro e w1 ⟨rfl, hb1⟩
      have B1 := Lib.hid hb1
      clear hb1
      have A1 := Lib.hid (HA.out.kept B1.out)
      have K1 := Lib.hid (Kpf.of_below (F := fun i => some b = some i) B1.out)
      clear CI
      go_wp2_with fail
      go_loopw [5, 6] (fun s5 s6 wr => ∃ (i j : Nat) (l' : List Hold) (cu : Array Value), s5 = .int .i64 i ∧ s6 = .int .i64 j ∧ j ≤ n ∧ i < j ∧ Hid (Thin p l l' i j ∧ RkAt wr 66 3 hC b off cap cu l' ∧ Kpf (fun i => some b = some i) w wr)) (fun _ s6 _ => n - (intOf s6).toNat)
      case atStart => exact ⟨i0, i0 + 1, l, cur, rfl, by go_num, by omega, by omega, Lib.hid ⟨ST.out, A1.out, K1.out⟩⟩
      case round =>
        clear A1 K1 B1 ST
        obtain ⟨i, j, l', cu, rfl, rfl, hjn, hij, hI⟩ := hrel
        by_cases hlt : j < n
        · have HLT := Lib.hid hlt
          have hjl : j < l.length := by rw [← HN.out]; exact hlt
          obtain ⟨hj', hyj⟩ := hI.out.1.at_ hjl
          have hA := hI.out.2.1
          obtain ⟨y, hy⟩ : ∃ y, y = l[j] := ⟨_, rfl⟩
          have HY := Lib.hid hy
          have Y := Lib.hid (show wr.rangeAt b (off + j * 3) (hC y) from by rw [HY.out, ← hyj]; exact hA.range hj')
          have CC := Lib.hid (fun (W : World) (hW : Kpf (fun i => some b = some i) w W) => HP.out W y (by rw [HY.out]; exact List.getElem_mem hjl) hW)
          obtain ⟨py, hpy⟩ : ∃ py, py = p y := ⟨_, rfl⟩
          have HPY := Lib.hid hpy
          rw [← hpy] at CC
          clear hy hpy hA hyj
          as_aux_lemma =>
            go_upto_region 8 with (first | (refine load_hold rfl _ rfl b (off + j * 3) y rfl Y.out ?_))
            obtain ⟨L0, hL0⟩ : ∃ L0, L0 = wr.heap.size := ⟨_, rfl⟩
            rw [← hL0]
            have KV := Lib.hid (show Bk (wr.alloc (.cells #[.int .i64 y.x, .int .i64 (y.m : Int), .int .i64 (y.w : Int)] 66)) L0 66 #[.int .i64 y.x, .int .i64 (y.m : Int), .int .i64 (y.w : Int)] from by rw [hL0]; exact Bk.new wr _ _)
            have hI2 : Hid (Thin p l l' i j ∧ RkAt (wr.alloc (.cells #[.int .i64 y.x, .int .i64 (y.m : Int), .int .i64 (y.w : Int)] 66)) 66 3 hC b off cap cu l' ∧ Kpf (fun i => some b = some i) w (wr.alloc (.cells #[.int .i64 y.x, .int .i64 (y.m : Int), .int .i64 (y.w : Int)] 66))) := Lib.hid ⟨hI.out.1, hI.out.2.1.alloc _, hI.out.2.2.alloc _⟩
            clear hI hL0
            generalize wr.alloc (.cells #[.int .i64 y.x, .int .i64 (y.m : Int), .int .i64 (y.w : Int)] 66) = w1x at *
            have v0 : w1x.cell? ⟨L0, 0, none⟩ = some (.int .i64 y.x) := KV.out.cell 0
            have v1 : w1x.cell? ⟨L0, 1, none⟩ = some (.int .i64 (y.m : Int)) := KV.out.cell 1
            have v2 : w1x.cell? ⟨L0, 2, none⟩ = some (.int .i64 (y.w : Int)) := KV.out.cell 2
            go_wp2_with fail
            refine (CC.out _ hI2.out.2.2).mono ?_
            rintro e w2 ⟨rfl, hb2⟩
            have B2 := Lib.hid hb2
            have KV2 := Lib.hid (KV.out.kept hb2)
            have A2 := Lib.hid (hI2.out.2.1.kept hb2)
            have K2 := Lib.hid (hI2.out.2.2.same (.of_below hb2))
            have T2 := Lib.hid hI2.out.1
            clear hb2 CC hI2 v0 v1 v2 KV
            cases py with
            | true =>
              go_wp2
              go_roundw
              case rel => exact ⟨i, j + 1, l', cu, rfl, by go_num, by have := HLT.out; omega, by omega, Lib.hid ⟨T2.out.skip hjl (by rw [← HY.out, ← HPY.out]), A2.out, K2.out⟩⟩
              case measure => have := HLT.out; simp [intOf]; omega
            | false =>
              have hil : i < l'.length := by omega
              have v0 : w2.cell? ⟨L0, 0, none⟩ = some (.int .i64 y.x) := KV2.out.cell 0
              have v1 : w2.cell? ⟨L0, 1, none⟩ = some (.int .i64 (y.m : Int)) := KV2.out.cell 1
              have v2 : w2.cell? ⟨L0, 2, none⟩ = some (.int .i64 (y.w : Int)) := KV2.out.cell 2
              have THR := Lib.hid (A2.out.there (j := i) (by have := A2.out.le; omega))
              have fz := A2.out.bk.fz
              have P2 := Lib.hid (A2.out.put hC_len i hil y)
              have K3 := Lib.hid (K2.out.cells (b := b) (.inl rfl) (off + i * 3) (hC y))
              have hin : i < n := by omega
              
              go_wp2_with (first | (refine wpList_store_mid rfl 66 _ _ rfl b (off + i * 3) #[.int .i64 y.x, .int .i64 (y.m : Int), .int .i64 (y.w : Int)] rfl rfl THR.out (by kernel_rfl) (by simp [Value.oneCell']) ?_))
              go_roundw
              case rel => exact ⟨i + 1, j + 1, l'.set i y, _, by go_num, by go_num, by have := HLT.out; omega, by omega, Lib.hid ⟨by rw [HY.out]; exact T2.out.keep hjl (by rw [← HY.out, ← HPY.out]), P2.out, K3.out⟩⟩
              case measure => have := HLT.out; simp [intOf]; omega
        · have TI := Lib.hid (hI.out.1.done (by rw [← HN.out]; exact hlt))
          have TL := Lib.hid (hI.out.1.len (by rw [← HN.out]; exact hlt))
          obtain rfl : j = n := by omega
          have A3 := Lib.hid hI.out.2.1
          have K3 := Lib.hid hI.out.2.2
          have hic : ¬ (cap = i) := by omega
          have hij2 : i ≤ j := by omega
          have icap : i ≤ cap := by omega
          clear hI hlt
          go_wp2_with (refine wpList_clear_rk rfl _ 58 rfl (.agg #[.int .i64 0, .int .i64 0, .int .i64 0]) Tryd.underlying58 (fun w => by kernel_rfl) rfl (by simp [Value.oneCell', Value.cells]) A3.out i (j - i) (cap - i) (by omega) rfl ?_; intro vs)
          go_ret
          exact ⟨_, rfl, .inr ⟨b, off, cap, _, by rw [TL.out]; rfl, FB.out, by rw [← TI.out]; exact A3.out.cut hC_len i vs⟩, K3.out.cells (.inl rfl) _ _⟩

set_option maxRecDepth 100000 in
set_option maxHeartbeats 4000000 in
theorem del_int (w : World) (F : Nat → Prop) (v : Value) (l : List Int) (p : Int → Bool) (g : Nat) (lb : Array Value) (eg : ∀ args w, (callFunc g args).run Tryd.prog w = .ok (.enter g args) w) (hr : Rk w F 3 1 eC v l) (hb : l.length ≤ 1000000) (hp : PR g lb eV p l v w) :
    Calls Tryd.prog 35 #[v, .func (.func g) #[] lb] w fun e w' => ∃ v', e = .returned v' ∧ Rk w' F 3 1 eC v' (l.filter fun x => !p x) ∧ Kpf (fun i => v.ownBlock = some i) w w' := by
  have CI := Lib.hid (idx_int w F v l p g lb eg hr hb hp.pb)
  obtain ⟨sa, sc, hv⟩ := hr.slice
  have R := Lib.hid hr
  have HP := Lib.hid hp
  rcases idxP_spec p l with ⟨e1, hall⟩ | ⟨i0, hi0, e1, ht0, hno⟩
  · rw [e1] at CI
    have FE : l.filter (fun x => !p x) = l := List.filter_eq_self.2 fun x hx => by rw [hall x hx]; rfl
    rw [FE]
    have SV := Lib.hid hv
    rw [hv] at CI ⊢
    clear hr hp hv hb hall e1 FE
    go_enter Tryd.func35, Tryd.ntmps35
    go_wp2_with fail
    refine CI.out.mono ?_
    rintro e w1 ⟨rfl, hb1⟩
    have B1 := Lib.hid hb1
    clear hb1
    go_wp2
    go_ret
    exact ⟨_, rfl, by rw [← SV.out]; exact R.out.kept B1.out, .of_below B1.out⟩
  · rw [e1] at CI
    rcases hr with ⟨_, hnil⟩ | ⟨b, off, cap, cur, hv2, hF, hA⟩
    · rw [hnil] at hi0; exact absurd hi0 (Nat.not_lt_zero _)
    · rw [hv2] at hv
      obtain ⟨rfl, rfl⟩ : some ⟨b, off, none⟩ = sa ∧ cap = sc := by simpa using hv
      have SV := Lib.hid hv2
      have FB := Lib.hid hF
      have OB : v.ownBlock = some b := by rw [hv2]; rfl
      rw [hv2] at CI HP ⊢
      rw [show (Value.slice (some ⟨b, off, none⟩) l.length cap).ownBlock = some b from rfl]
      have HA := Lib.hid hA
      have ST := Lib.hid (Thin.start hi0 ht0 hno)
      have HL := Lib.hid hA.le
      have MX := Lib.hid hA.mx
      have i0n : i0 < l.length := hi0
      obtain ⟨n, hn⟩ : ∃ n, n = l.length := ⟨_, rfl⟩
      have HN := Lib.hid hn
      rw [← hn] at CI i0n ⊢
      have n64 : n ≤ 1000000 := by rw [hn]; exact hb
      have ncap : n ≤ cap := by rw [hn]; exact HL.out
      have cap63 : cap ≤ 9223372036854775807 := by have := MX.out; unfold maxLen at this; omega
      have m1 : ((i0 : Int) == -1) = false := beq_eq_false_iff_ne.2 (by omega)
      clear hp hb hno ht0 e1 hv hA hn OB hi0 hv2 R hF
      go_enter Tryd.func35, Tryd.ntmps35
      go_wp2_with fail
      refine CI.out.mono ?_
      rintro e w1 ⟨rfl, hb1⟩
      have B1 := Lib.hid hb1
      clear hb1
      have A1 := Lib.hid (HA.out.kept B1.out)
      have K1 := Lib.hid (Kpf.of_below (F := fun i => some b = some i) B1.out)
      clear CI
      go_wp2_with fail
      go_loopw [5, 6] (fun s5 s6 wr => ∃ (i j : Nat) (l' : List Int) (cu : Array Value), s5 = .int .i64 i ∧ s6 = .int .i64 j ∧ j ≤ n ∧ i < j ∧ Hid (Thin p l l' i j ∧ RkAt wr 3 1 eC b off cap cu l' ∧ Kpf (fun i => some b = some i) w wr)) (fun _ s6 _ => n - (intOf s6).toNat)
      case atStart => exact ⟨i0, i0 + 1, l, cur, rfl, by go_num, by omega, by omega, Lib.hid ⟨ST.out, A1.out, K1.out⟩⟩
      case round =>
        clear A1 K1 B1 ST
        obtain ⟨i, j, l', cu, rfl, rfl, hjn, hij, hI⟩ := hrel
        by_cases hlt : j < n
        · have HLT := Lib.hid hlt
          have hjl : j < l.length := by rw [← HN.out]; exact hlt
          obtain ⟨hj', hyj⟩ := hI.out.1.at_ hjl
          have hA := hI.out.2.1
          obtain ⟨y, hy⟩ : ∃ y, y = l[j] := ⟨_, rfl⟩
          have HY := Lib.hid hy
          have y0 : wr.cell? ⟨b, off + j, none⟩ = some (.int .i64 y) := by
            have := (hA.cell hj' (i := 0) (u := .int .i64 l'[j]) rfl)
            rw [hyj, ← HY.out] at this
            simpa using this
          have CC := Lib.hid (fun (W : World) (hW : Kpf (fun i => some b = some i) w W) => HP.out W y (by rw [HY.out]; exact List.getElem_mem hjl) hW)
          obtain ⟨py, hpy⟩ : ∃ py, py = p y := ⟨_, rfl⟩
          have HPY := Lib.hid hpy
          rw [← hpy] at CC
          clear hy hpy hA hyj
          as_aux_lemma =>
            go_upto_region 8 with fail
            have hI2 := hI
            clear hI y0
            go_wp2_with fail
            refine (CC.out _ hI2.out.2.2).mono ?_
            rintro e w2 ⟨rfl, hb2⟩
            have B2 := Lib.hid hb2
            have A2 := Lib.hid (hI2.out.2.1.kept hb2)
            have K2 := Lib.hid (hI2.out.2.2.same (.of_below hb2))
            have T2 := Lib.hid hI2.out.1
            clear hb2 CC hI2 
            cases py with
            | true =>
              go_wp2
              go_roundw
              case rel => exact ⟨i, j + 1, l', cu, rfl, by go_num, by have := HLT.out; omega, by omega, Lib.hid ⟨T2.out.skip hjl (by rw [← HY.out, ← HPY.out]), A2.out, K2.out⟩⟩
              case measure => have := HLT.out; simp [intOf]; omega
            | false =>
              have hil : i < l'.length := by omega
              
              have THR := Lib.hid (A2.out.there (j := i) (by have := A2.out.le; omega))
              have fz := A2.out.bk.fz
              have P2 := Lib.hid (A2.out.put eC_len i hil y)
              have K3 := Lib.hid (K2.out.cells (b := b) (.inl rfl) (off + i * 1) (eC y))
              have hin : i < n := by omega
              have y0 : (w2.cell? ⟨b, off + i, none⟩).isSome = true := by have := (THR.out 0 (by omega)).1; simpa using this
              obtain ⟨u0, y0⟩ := Option.isSome_iff_exists.1 y0
              go_wp2_with fail
              go_roundw
              case rel => exact ⟨i + 1, j + 1, l'.set i y, _, by go_num, by go_num, by have := HLT.out; omega, by omega, Lib.hid ⟨by rw [HY.out]; exact T2.out.keep hjl (by rw [← HY.out, ← HPY.out]), (by have := P2.out; rw [Nat.mul_one] at this; exact this), (by have := K3.out; rw [Nat.mul_one] at this; exact this)⟩⟩
              case measure => have := HLT.out; simp [intOf]; omega
        · have TI := Lib.hid (hI.out.1.done (by rw [← HN.out]; exact hlt))
          have TL := Lib.hid (hI.out.1.len (by rw [← HN.out]; exact hlt))
          obtain rfl : j = n := by omega
          have A3 := Lib.hid hI.out.2.1
          have K3 := Lib.hid hI.out.2.2
          have hic : ¬ (cap = i) := by omega
          have hij2 : i ≤ j := by omega
          have icap : i ≤ cap := by omega
          clear hI hlt
          obtain ⟨vs, hcl⟩ := run_clear_rk (P := Tryd.prog) (k := 1) 56 0 (.int .i64 0) Tryd.underlying56 (fun w => by kernel_rfl) rfl (by simp [Value.oneCell', Value.cells]) A3.out i (j - i) (cap - i) (by omega)
          have AE := Lib.hid (show RkAt (wr.setCells b (off + i) vs) 3 1 eC b off cap _ (l'.take i) from by have := A3.out.cut eC_len i vs; rw [Nat.mul_one] at this; exact this)
          rw [Nat.mul_one] at hcl
          go_wp2
          go_ret
          exact ⟨_, rfl, .inr ⟨b, off, cap, _, by rw [TL.out]; rfl, FB.out, by rw [← TI.out]; exact AE.out⟩, K3.out.cells (.inl rfl) _ _⟩

set_option maxRecDepth 100000 in
set_option maxHeartbeats 4000000 in
theorem del_wish (w : World) (F : Nat → Prop) (v : Value) (l : List (Int × Nat)) (p : (Int × Nat) → Bool) (g : Nat) (lb : Array Value) (eg : ∀ args w, (callFunc g args).run Tryd.prog w = .ok (.enter g args) w) (hr : Rk w F 68 2 wC v l) (hb : l.length ≤ 1000000) (hp : PR g lb wV p l v w) :
    Calls Tryd.prog 37 #[v, .func (.func g) #[] lb] w fun e w' => ∃ v', e = .returned v' ∧ Rk w' F 68 2 wC v' (l.filter fun x => !p x) ∧ Kpf (fun i => v.ownBlock = some i) w w' := by
  have CI := Lib.hid (idx_wish w F v l p g lb eg hr hb hp.pb)
  obtain ⟨sa, sc, hv⟩ := hr.slice
  have R := Lib.hid hr
  have HP := Lib.hid hp
  rcases idxP_spec p l with ⟨e1, hall⟩ | ⟨i0, hi0, e1, ht0, hno⟩
  · rw [e1] at CI
    have FE : l.filter (fun x => !p x) = l := List.filter_eq_self.2 fun x hx => by rw [hall x hx]; rfl
    rw [FE]
    have SV := Lib.hid hv
    rw [hv] at CI ⊢
    clear hr hp hv hb hall e1 FE
    go_enter Tryd.func37, Tryd.ntmps37
    go_wp2_with fail
    refine CI.out.mono ?_
    rintro e w1 ⟨rfl, hb1⟩
    have B1 := Lib.hid hb1
    clear hb1
    go_wp2
    go_ret
    exact ⟨_, rfl, by rw [← SV.out]; exact R.out.kept B1.out, .of_below B1.out⟩
  · rw [e1] at CI
    rcases hr with ⟨_, hnil⟩ | ⟨b, off, cap, cur, hv2, hF, hA⟩
    · rw [hnil] at hi0; exact absurd hi0 (Nat.not_lt_zero _)
    · rw [hv2] at hv
      obtain ⟨rfl, rfl⟩ : some ⟨b, off, none⟩ = sa ∧ cap = sc := by simpa using hv
      have SV := Lib.hid hv2
      have FB := Lib.hid hF
      have OB : v.ownBlock = some b := by rw [hv2]; rfl
      rw [hv2] at CI HP ⊢
      rw [show (Value.slice (some ⟨b, off, none⟩) l.length cap).ownBlock = some b from rfl]
      have HA := Lib.hid hA
      have ST := Lib.hid (Thin.start hi0 ht0 hno)
      have HL := Lib.hid hA.le
      have MX := Lib.hid hA.mx
      have i0n : i0 < l.length := hi0
      obtain ⟨n, hn⟩ : ∃ n, n = l.length := ⟨_, rfl⟩
      have HN := Lib.hid hn
      rw [← hn] at CI i0n ⊢
      have n64 : n ≤ 1000000 := by rw [hn]; exact hb
      have ncap : n ≤ cap := by rw [hn]; exact HL.out
      have cap63 : cap ≤ 9223372036854775807 := by have := MX.out; unfold maxLen at this; omega
      have m1 : ((i0 : Int) == -1) = false := beq_eq_false_iff_ne.2 (by omega)
      clear hp hb hno ht0 e1 hv hA hn OB hi0 hv2 R hF
      go_enter Tryd.func37, Tryd.ntmps37
      go_wp2_with fail
      refine CI.out.mono ?_
      rintro e w1 ⟨rfl, hb1⟩
      have B1 := Lib.hid hb1
      clear hb1
      have A1 := Lib.hid (HA.out.kept B1.out)
      have K1 := Lib.hid (Kpf.of_below (F := fun i => some b = some i) B1.out)
      clear CI
      go_wp2_with fail
      go_loopw [5, 6] (fun s5 s6 wr => ∃ (i j : Nat) (l' : List (Int × Nat)) (cu : Array Value), s5 = .int .i64 i ∧ s6 = .int .i64 j ∧ j ≤ n ∧ i < j ∧ Hid (Thin p l l' i j ∧ RkAt wr 68 2 wC b off cap cu l' ∧ Kpf (fun i => some b = some i) w wr)) (fun _ s6 _ => n - (intOf s6).toNat)
      case atStart => exact ⟨i0, i0 + 1, l, cur, rfl, by go_num, by omega, by omega, Lib.hid ⟨ST.out, A1.out, K1.out⟩⟩
      case round =>
        clear A1 K1 B1 ST
        obtain ⟨i, j, l', cu, rfl, rfl, hjn, hij, hI⟩ := hrel
        by_cases hlt : j < n
        · have HLT := Lib.hid hlt
          have hjl : j < l.length := by rw [← HN.out]; exact hlt
          obtain ⟨hj', hyj⟩ := hI.out.1.at_ hjl
          have hA := hI.out.2.1
          obtain ⟨y, hy⟩ : ∃ y, y = l[j] := ⟨_, rfl⟩
          have HY := Lib.hid hy
          have Y := Lib.hid (show wr.rangeAt b (off + j * 2) (wC y) from by rw [HY.out, ← hyj]; exact hA.range hj')
          have CC := Lib.hid (fun (W : World) (hW : Kpf (fun i => some b = some i) w W) => HP.out W y (by rw [HY.out]; exact List.getElem_mem hjl) hW)
          obtain ⟨py, hpy⟩ : ∃ py, py = p y := ⟨_, rfl⟩
          have HPY := Lib.hid hpy
          rw [← hpy] at CC
          clear hy hpy hA hyj
          as_aux_lemma =>
            go_upto_region 8 with (first | (refine load_wish rfl _ rfl b (off + j * 2) y rfl Y.out ?_))
            obtain ⟨L0, hL0⟩ : ∃ L0, L0 = wr.heap.size := ⟨_, rfl⟩
            rw [← hL0]
            have KV := Lib.hid (show Bk (wr.alloc (.cells #[.int .i64 y.1, .int .i64 (y.2 : Int)] 68)) L0 68 #[.int .i64 y.1, .int .i64 (y.2 : Int)] from by rw [hL0]; exact Bk.new wr _ _)
            have hI2 : Hid (Thin p l l' i j ∧ RkAt (wr.alloc (.cells #[.int .i64 y.1, .int .i64 (y.2 : Int)] 68)) 68 2 wC b off cap cu l' ∧ Kpf (fun i => some b = some i) w (wr.alloc (.cells #[.int .i64 y.1, .int .i64 (y.2 : Int)] 68))) := Lib.hid ⟨hI.out.1, hI.out.2.1.alloc _, hI.out.2.2.alloc _⟩
            clear hI hL0
            generalize wr.alloc (.cells #[.int .i64 y.1, .int .i64 (y.2 : Int)] 68) = w1x at *
            have v0 : w1x.cell? ⟨L0, 0, none⟩ = some (.int .i64 y.1) := KV.out.cell 0
            have v1 : w1x.cell? ⟨L0, 1, none⟩ = some (.int .i64 (y.2 : Int)) := KV.out.cell 1
            go_wp2_with fail
            refine (CC.out _ hI2.out.2.2).mono ?_
            rintro e w2 ⟨rfl, hb2⟩
            have B2 := Lib.hid hb2
            have KV2 := Lib.hid (KV.out.kept hb2)
            have A2 := Lib.hid (hI2.out.2.1.kept hb2)
            have K2 := Lib.hid (hI2.out.2.2.same (.of_below hb2))
            have T2 := Lib.hid hI2.out.1
            clear hb2 CC hI2 v0 v1 KV
            cases py with
            | true =>
              go_wp2
              go_roundw
              case rel => exact ⟨i, j + 1, l', cu, rfl, by go_num, by have := HLT.out; omega, by omega, Lib.hid ⟨T2.out.skip hjl (by rw [← HY.out, ← HPY.out]), A2.out, K2.out⟩⟩
              case measure => have := HLT.out; simp [intOf]; omega
            | false =>
              have hil : i < l'.length := by omega
              have v0 : w2.cell? ⟨L0, 0, none⟩ = some (.int .i64 y.1) := KV2.out.cell 0
              have v1 : w2.cell? ⟨L0, 1, none⟩ = some (.int .i64 (y.2 : Int)) := KV2.out.cell 1
              have THR := Lib.hid (A2.out.there (j := i) (by have := A2.out.le; omega))
              have fz := A2.out.bk.fz
              have P2 := Lib.hid (A2.out.put wC_len i hil y)
              have K3 := Lib.hid (K2.out.cells (b := b) (.inl rfl) (off + i * 2) (wC y))
              have hin : i < n := by omega
              
              go_wp2_with (first | (refine wpList_store_mid rfl 68 _ _ rfl b (off + i * 2) #[.int .i64 y.1, .int .i64 (y.2 : Int)] rfl rfl THR.out (by kernel_rfl) (by simp [Value.oneCell']) ?_))
              go_roundw
              case rel => exact ⟨i + 1, j + 1, l'.set i y, _, by go_num, by go_num, by have := HLT.out; omega, by omega, Lib.hid ⟨by rw [HY.out]; exact T2.out.keep hjl (by rw [← HY.out, ← HPY.out]), P2.out, K3.out⟩⟩
              case measure => have := HLT.out; simp [intOf]; omega
        · have TI := Lib.hid (hI.out.1.done (by rw [← HN.out]; exact hlt))
          have TL := Lib.hid (hI.out.1.len (by rw [← HN.out]; exact hlt))
          obtain rfl : j = n := by omega
          have A3 := Lib.hid hI.out.2.1
          have K3 := Lib.hid hI.out.2.2
          have hic : ¬ (cap = i) := by omega
          have hij2 : i ≤ j := by omega
          have icap : i ≤ cap := by omega
          clear hI hlt
          go_wp2_with (refine wpList_clear_rk rfl _ 59 rfl (.agg #[.int .i64 0, .int .i64 0]) Tryd.underlying59 (fun w => by kernel_rfl) rfl (by simp [Value.oneCell', Value.cells]) A3.out i (j - i) (cap - i) (by omega) rfl ?_; intro vs)
          go_ret
          exact ⟨_, rfl, .inr ⟨b, off, cap, _, by rw [TL.out]; rfl, FB.out, by rw [← TI.out]; exact A3.out.cut wC_len i vs⟩, K3.out.cells (.inl rfl) _ _⟩

end Go.Proofs.YtnpnpkaklamboaaDoor
