/- slices.Delete of one number; who can be given; what can be given is given. -/
import Derived.Test.YtnpnpkaklamboaaDoorLkAsk
import Derived.Test.YtnpnpkaklamboaaDoorKept
import Derived.Deep.LoopGhost
set_option linter.unusedVariables false
set_option linter.unusedSimpArgs false
namespace Go.Proofs.YtnpnpkaklamboaaDoor
open Go.RowKit Go.Shelf

theorem step_append_eq {P : Program} {ops : Array Oper} {o : Oper} {a : Act} {w : World} {K : Act → World → Prop} {Q : Exit → Act → World → Prop} {E : Prop} (hg : o.guard = none) (d s : Operand) (t t' : TypeId) (ho : o.op = .call { callee := .builtin .append, args := #[d, s], argTypes := #[t, t'] }) (v u : Value) (hd : a.eval d = v) (hs : a.eval s = u) {v' : Value} {w' : World}
    (hr : (Builtin.append_ #[t, t'] o.type #[v, u]).run P w = .ok v' w') (h : K (a.put o.dst v') w') : if Region.wanted o (yielded ops a.tmps) = true then Oper.wp P o a w K Q else E := by
  have hw : Region.wanted o (yielded ops a.tmps) = true := by simp [Region.wanted, hg]
  rw [if_pos hw]
  unfold Oper.wp execOp
  simp only [ho, resolve, invoke, builtin, Sem.run_bind, Sem.run_pure, Result.andThen_ok, List.map_toArray, List.map_cons, List.map_nil, hd, hs, hr]
  exact h
set_option maxRecDepth 100000 in
set_option maxHeartbeats 8000000 in
theorem delete_any (w : World) (F : Nat → Prop) (v : Value) (l : List Int) (i : Nat) (hi : i < l.length) (hr : Rk w F 3 1 eC v l) (hb : l.length ≤ 1000000) :
    Calls Tryd.prog 42 #[v, .int .i64 (i : Int), .int .i64 ((i : Int) + 1)] w fun e w' => ∃ v', e = .returned v' ∧ Rk w' F 3 1 eC v' (l.eraseIdx i) ∧ Kpf (fun i => v.ownBlock = some i) w w' := by
  rcases hr with ⟨_, hnil⟩ | ⟨b, off, cap, cur, rfl, hF, hA⟩
  · rw [hnil] at hi; exact absurd hi (Nat.not_lt_zero _)
  obtain ⟨I, hi', hz, hsz, hby⟩ := int_info
  have hel : (l.eraseIdx i).length = l.length - 1 := List.length_eraseIdx_of_lt hi
  have hee : l.eraseIdx i = l.take i ++ l.drop (i + 1) := List.eraseIdx_eq_take_drop_succ l i
  have hdl : ((l.drop (i + 1)).flatMap eC).length = l.length - (i + 1) := by rw [fl_len eC_len, List.length_drop, Nat.mul_one]
  have src : ∀ (off2 c : Nat), (l.length - (i + 1) = 0 ∨ off2 = off + (i + 1)) → Src Tryd.prog I.size 56 (.slice (some ⟨b, off2, none⟩) (l.length - (i + 1)) c) (l.length - (i + 1)) ((l.drop (i + 1)).flatMap eC) w.drew := fun off2 c ho =>
    Src.ofSlice w.drew Tryd.underlying56 ⟨b, off2, none⟩ _ c _ (by rw [hdl, hsz, Nat.mul_one]) (fun j u hj => by
      have hj2 : j < l.length - (i + 1) := by rw [← hdl]; exact (List.getElem?_eq_some_iff.1 hj).1
      rw [drop_flat eC_len (by decide)] at hj
      rcases ho with ho | ho
      · omega
      · rw [Addr.add_mid, ho, Nat.add_assoc]
        have := hA.flat_cell eC_len (by decide) hj
        rw [Nat.mul_one] at this
        exact this) (fun u hu => by
      obtain ⟨y, _, hy⟩ := List.mem_flatMap.1 hu
      exact eC_one y u hy)
  have hap : ∀ (off2 c : Nat), (l.length - (i + 1) = 0 ∨ off2 = off + (i + 1)) → (Builtin.append_ #[56, 56] 56 #[.slice (some ⟨b, off, none⟩) i cap, .slice (some ⟨b, off2, none⟩) (l.length - (i + 1)) c]).run Tryd.prog w.drew = .ok (.slice (some ⟨b, off, none⟩) (l.length - 1) cap) (w.drew.setCells b (off + i) ((l.drop (i + 1)).flatMap eC)) := fun off2 c ho => by
    have := run_append_room_src w.drew 56 56 56 3 I Tryd.underlying56 hi' b off i cap _ _ _ (src off2 c ho) (by have := hA.le; omega) (fun j hj => by
      rw [hdl] at hj
      rw [hsz, Nat.mul_one, Nat.add_assoc]
      exact hA.isSome (w := w) (m := i + j) (by have := hA.le; omega)) (fun j _ => hA.bk.fz _)
    rw [hsz, Nat.mul_one, show i + (l.length - (i + 1)) = l.length - 1 by omega] at this
    exact this
  have A2 : RkAt (w.drew.setCells b (off + i) ((l.drop (i + 1)).flatMap eC)) 3 1 eC b off cap (spl cur (off + i) ((l.drop (i + 1)).flatMap eC)) (l.eraseIdx i) := by
    refine RkAt.of_flat eC_len (bk_cells _ _ _ _ hA.bk) (by rw [hel]; have := hA.le; omega) hA.mx (by rw [spl_size]; exact hA.sz) fun m hm => ?_
    rw [hel, Nat.mul_one] at hm
    have hcs : off + m < cur.size := by have := hA.sz; have := hA.le; omega
    have htl : ((l.take i).flatMap eC).length = i := by rw [fl_len eC_len, List.length_take, Nat.min_eq_left (by omega), Nat.mul_one]
    rw [spl_get, hdl, hee, List.flatMap_append]
    by_cases c1 : m < i
    · rw [if_neg (by omega), List.getElem?_append_left (by rw [htl]; exact c1), take_flat eC_len (by decide) (by omega) (by omega)]
      exact hA.flat eC_len (by decide) (by omega)
    · rw [if_pos (by omega), if_pos hcs, List.getElem?_append_right (by rw [htl]; omega), htl, show off + m - (off + i) = m - i by omega]
  obtain ⟨w1, hw1⟩ : ∃ w1, w1 = w.drew.setCells b (off + i) ((l.drop (i + 1)).flatMap eC) := ⟨_, rfl⟩
  rw [← hw1] at hap A2
  obtain ⟨vs, hcl⟩ := run_clear_rk (P := Tryd.prog) (k := 1) 56 0 (.int .i64 0) Tryd.underlying56 (fun w => by kernel_rfl) rfl (by simp [Value.oneCell', Value.cells]) A2 (l.length - 1) 1 (cap - (l.length - 1)) (by have := hA.le; omega)
  have AE := Lib.hid (show RkAt (w1.setCells b (off + (l.length - 1)) vs) 3 1 eC b off cap _ (l.eraseIdx i) from by
    have := A2.cut eC_len (l.length - 1) vs
    rw [Nat.mul_one, List.take_of_length_le (by rw [hel]; exact Nat.le_refl _)] at this
    exact this)
  rw [Nat.mul_one] at hcl
  have KK := Lib.hid (show Kpf (fun i => some b = some i) w (w1.setCells b (off + (l.length - 1)) vs) from by
    refine Kpf.cells (F := fun i => some b = some i) ?_ (.inl rfl) _ _
    rw [hw1]
    exact ((Kpf.refl (fun i => some b = some i) w).drew).cells (.inl rfl) _ _)
  obtain ⟨n, hn⟩ : ∃ n, n = l.length := ⟨_, rfl⟩
  have HEL := Lib.hid (show (l.eraseIdx i).length = n - 1 by rw [hel, hn])
  have ncap : n ≤ cap := by rw [hn]; exact hA.le
  have cap63 : cap ≤ 9223372036854775807 := by have := hA.mx; unfold maxLen at this; omega
  have HF := Lib.hid hF
  rw [← hn] at hap hcl hi hb AE KK ⊢
  have hz1 : ¬ ((i : Int) = (i : Int) + 1) := by omega
  have hw1' : IntKind.i64.wrap ((i : Int) + 1) = (i : Int) + 1 := by rw [IntKind.wrap_i64]; omega
  have hb1 : (0 : Int) ≤ (i : Int) + 1 := by omega
  have htn : ((i : Int) + 1).toNat = i + 1 := by omega
  have hin : i + 1 ≤ n := by omega
  have hin1 : i ≤ n := by omega
  have hin2 : i ≤ i + 1 := by omega
  have hb3 : (i : Int) + 1 ≤ (n : Int) := by omega
  have hb4 : ¬ (cap = i) := by omega
  have hb5 : ¬ (n = i) := by omega
  have hb6 : ¬ (cap = n - 1) := by omega
  have hb7 : n - 1 ≤ n := by omega
  have hb8 : n - (n - 1) = 1 := by omega
  have hb9 : (i : Int) ≤ (i : Int) + 1 := by omega
  have hb10 : i ≤ cap := by omega
  have HAP := Lib.hid hap
  rw [show (Value.slice (some ⟨b, off, none⟩) n cap).ownBlock = some b from rfl]
  clear hF hA hi' hz hsz hby hel hee hdl src A2 hw1 hn hap
  by_cases hcc : cap = i + 1
  · subst hcc
    have e1 := HAP.out off 0 (.inl (by omega))
    go_enter Tryd.func42, Tryd.ntmps42
    go_wp2
    have E1 := Lib.hid e1
    clear e1
    go_region_law (refine step_append_eq rfl _ _ 56 56 rfl (.slice (some ⟨b, off, none⟩) i (i + 1)) (.slice (some ⟨b, off, none⟩) (n - (i + 1)) 0) (by simp [Act.eval, Act.put]) (by simp [Act.eval, Act.put]; omega) E1.out ?_)
    go_wp2
    go_ret
    exact ⟨_, rfl, .inr ⟨b, off, _, _, by rw [HEL.out]; rfl, HF.out, AE.out⟩, KK.out⟩
  · have e1 := HAP.out (off + (i + 1)) (cap - (i + 1)) (.inr rfl)
    go_enter Tryd.func42, Tryd.ntmps42
    go_wp2
    have E1 := Lib.hid e1
    clear e1
    go_region_law (refine step_append_eq rfl _ _ 56 56 rfl (.slice (some ⟨b, off, none⟩) i cap) (.slice (some ⟨b, off + (i + 1), none⟩) (n - (i + 1)) (cap - (i + 1))) (by simp [Act.eval, Act.put]) (by simp [Act.eval, Act.put]) E1.out ?_)
    go_wp2
    go_ret
    exact ⟨_, rfl, .inr ⟨b, off, _, _, by rw [HEL.out]; rfl, HF.out, AE.out⟩, KK.out⟩
set_option maxRecDepth 100000 in
set_option maxHeartbeats 8000000 in
theorem gpred_any {w : World} {F : Nat → Prop} {g : Nat} {vh ve vw : Value} {q : Que} (h : Qm w F g vh ve vw q) (hT : Tab w) (hok : q.ok cpN) (hbd : q.bd) (hb : q.hs.length ≤ 100000) (K : Nat) (hk : w.cell? ⟨K, 0, none⟩ = some (.pointer (some ⟨g, 0, none⟩))) (y : Int) (hy : y ∈ q.eg) :
    Calls Tryd.prog 40 #[.int .i64 y, .pointer (some ⟨K, 0, none⟩)] w fun e w' => e = .returned (.bool (q.free cpN y (q.wantOf y))) ∧ Below w.heap.size w w' := by
  obtain ⟨h0, h0m, h0x, h0w, h0g, h0e⟩ := eager_hold hok hy
  obtain ⟨i, hil, hix, hli⟩ := find_some h0g
  have hw6 := (hbd.hs h0 h0m).2.2
  rw [h0e]
  have FI := Lib.hid (fun (W : World) (hW : Below w.heap.size w W) => find_any (h.kept hW) (by omega) y)
  rw [hix] at FI
  have FR := Lib.hid (fun (W : World) (hW : Below w.heap.size w W) => free_any (h.kept hW) (hT.below hW) hbd (by omega) y h0.w hw6)
  rcases h.hs with ⟨hv, hnil⟩ | ⟨b, off, cap, cur, hv, hF, hA⟩
  · rw [hnil] at hil; exact absurd hil (Nat.not_lt_zero _)
  subst hv
  have y0 := fun x : Kp w => show x.1.cell? ⟨K, 0, none⟩ = some (.pointer (some ⟨g, 0, none⟩)) from x.cell hk
  have y1 := fun x : Kp w => show x.1.cell? ⟨g, 0, none⟩ = some (.slice (some ⟨b, off, none⟩) q.hs.length cap) from x.cell (h.bk.cell 0)
  have y2 := fun x : Kp w => show x.1.cell? ⟨b, off + i * 3 + 2, none⟩ = some (.int .i64 (h0.w : Int)) from x.cell (hA.cell hil (by rw [hli]; rfl))
  have i0 : ¬ ((i : Int) < 0) := by omega
  have i63 : i ≤ 100000 := by omega
  obtain ⟨f, hf⟩ : ∃ f, f = q.free cpN y h0.w := ⟨_, rfl⟩
  rw [← hf] at FR ⊢
  have C1 := Lib.hid (fun x : Kp w => FI.out x.1 x.2)
  have C2 := Lib.hid (fun x : Kp w => FR.out x.1 x.2)
  clear h hT hok hbd hb hk hy h0m h0x h0w h0g h0e hix hli hw6 hF hA hf FI FR
  go_enter Tryd.func40, Tryd.ntmps40
  go_upto_region 1 with fail
  refine wp_region_kept (by kernel_rfl) (by kernel_rfl) ?_
  repeat (first
    | go_big_quiet_skip
    | (go_big_quiet_want; go_big_quiet_op; first | go_big_quiet_on | go_big_quiet_call (first | exact kp_call (C1.out _) | exact kp_call (C2.out _))))
  refine wpQuiet_nil ?_
  rintro _ ⟨x, rfl⟩
  have B := Lib.hid x.2
  clear y0 y1 y2 C1 C2
  generalize x.1 = w2 at B ⊢
  clear x
  go_wp2
  go_ret
  exact ⟨rfl, B.out⟩
end Go.Proofs.YtnpnpkaklamboaaDoor
