/- A transaction is taken out of a queue. -/
import Derived.Test.YtnpnpkaklamboaaDoorLkDel
set_option linter.unusedVariables false
set_option linter.unusedSimpArgs false
namespace Go.Proofs.YtnpnpkaklamboaaDoor
open Go.RowKit Go.Shelf

section
variable {α : Type} {w w' : World} {F G : Nat → Prop} {e t : TypeId} {k : Nat} {enc : α → List Value} {v : Value} {l : List α} {cs : Array Value} {i : Nat}
/-- What turns with a row leaves all blocks of other types. -/
theorem kp_apart (h : Rk w F e k enc v l) (kp : Kpf (fun i => v.ownBlock = some i) w w') (hb : Bk w i t cs) (hne : t ≠ e) : w'.heap[i]? = w.heap[i]? := by
  refine kp.block i hb.lt fun ho => ?_
  rcases h with ⟨rfl, _⟩ | ⟨b, off, cap, cur, rfl, hF, hr⟩
  · cases ho
  · obtain rfl : b = i := by simpa [Value.ownBlock] using ho
    exact Bk.ne_ hb hr.bk hne rfl
theorem Rk.set_far (h : Rk w F e k enc v l) {g : Nat} (hb : Bk w g t cs) (hne : e ≠ t) (c : Nat) (u : Value) : Rk (w.setCell ⟨g, c, none⟩ u) F e k enc v l :=
  h.apart fun i ⟨cs', hi⟩ => Below.heap_setCell w ⟨g, c, none⟩ u i (Bk.ne_ hi hb hne)
theorem own_in (h : Rk w F e k enc v l) : ∀ i, v.ownBlock = some i → F i := fun i ho => by
  rcases h with ⟨rfl, _⟩ | ⟨b, off, cap, cur, rfl, hF, hr⟩
  · cases ho
  · obtain rfl : b = i := by simpa [Value.ownBlock] using ho
    exact hF
theorem own_lt (h : Rk w F e k enc v l) : ∀ i, v.ownBlock = some i → i < w.heap.size := fun i ho => by
  rcases h with ⟨rfl, _⟩ | ⟨b, off, cap, cur, rfl, hF, hr⟩
  · cases ho
  · obtain rfl : b = i := by simpa [Value.ownBlock] using ho
    exact hr.bk.lt
end
section
variable {w w' : World} {F G : Nat → Prop} {g : Nat} {vh ve vw vh' ve' vw' : Value} {q : Que}
theorem Qm.put0 (h : Qm w F g vh ve vw q) (kp : Kpf (fun i => vh.ownBlock = some i) w w') (hG : ∀ i, F i → G i) {hs' : List Hold} (hr : Rk w' G 66 3 hC vh' hs') :
    Qm (w'.setCell ⟨g, 0, none⟩ vh') G g vh' ve vw ⟨hs', q.eg, q.ws⟩ ∧ Kpf F w (w'.setCell ⟨g, 0, none⟩ vh') := by
  have hb : Bk w' g 61 #[vh, ve, vw] := (kp_apart h.hs kp h.bk (by decide)).trans h.bk
  have h1 : Rk w' F 3 1 eC ve q.eg := h.eg.apart fun i ⟨cs, hi⟩ => kp_apart h.hs kp hi (by decide)
  have h2 : Rk w' F 68 2 wC vw q.ws := h.ws.apart fun i ⟨cs, hi⟩ => kp_apart h.hs kp hi (by decide)
  exact ⟨⟨hG g h.fg, by have := hb.set 0 vh'; simpa using this, hr.set_far hb (by decide) _ _, (h1.mono hG).set_far hb (by decide) _ _, (h2.mono hG).set_far hb (by decide) _ _⟩, (kp.mono (own_in h.hs)).setCell (.inl h.fg) _⟩
theorem Qm.put1 (h : Qm w F g vh ve vw q) (kp : Kpf (fun i => ve.ownBlock = some i) w w') (hG : ∀ i, F i → G i) {eg' : List Int} (hr : Rk w' G 3 1 eC ve' eg') :
    Qm (w'.setCell ⟨g, 1, none⟩ ve') G g vh ve' vw ⟨q.hs, eg', q.ws⟩ ∧ Kpf F w (w'.setCell ⟨g, 1, none⟩ ve') := by
  have hb : Bk w' g 61 #[vh, ve, vw] := (kp_apart h.eg kp h.bk (by decide)).trans h.bk
  have h1 : Rk w' F 66 3 hC vh q.hs := h.hs.apart fun i ⟨cs, hi⟩ => kp_apart h.eg kp hi (by decide)
  have h2 : Rk w' F 68 2 wC vw q.ws := h.ws.apart fun i ⟨cs, hi⟩ => kp_apart h.eg kp hi (by decide)
  exact ⟨⟨hG g h.fg, by have := hb.set 1 ve'; simpa using this, (h1.mono hG).set_far hb (by decide) _ _, hr.set_far hb (by decide) _ _, (h2.mono hG).set_far hb (by decide) _ _⟩, (kp.mono (own_in h.eg)).setCell (.inl h.fg) _⟩
theorem Qm.put2 (h : Qm w F g vh ve vw q) (kp : Kpf (fun i => vw.ownBlock = some i) w w') (hG : ∀ i, F i → G i) {ws' : List (Int × Nat)} (hr : Rk w' G 68 2 wC vw' ws') :
    Qm (w'.setCell ⟨g, 2, none⟩ vw') G g vh ve vw' ⟨q.hs, q.eg, ws'⟩ ∧ Kpf F w (w'.setCell ⟨g, 2, none⟩ vw') := by
  have hb : Bk w' g 61 #[vh, ve, vw] := (kp_apart h.ws kp h.bk (by decide)).trans h.bk
  have h1 : Rk w' F 66 3 hC vh q.hs := h.hs.apart fun i ⟨cs, hi⟩ => kp_apart h.ws kp hi (by decide)
  have h2 : Rk w' F 3 1 eC ve q.eg := h.eg.apart fun i ⟨cs, hi⟩ => kp_apart h.ws kp hi (by decide)
  exact ⟨⟨hG g h.fg, by have := hb.set 2 vw'; simpa using this, (h1.mono hG).set_far hb (by decide) _ _, (h2.mono hG).set_far hb (by decide) _ _, hr.set_far hb (by decide) _ _⟩, (kp.mono (own_in h.ws)).setCell (.inl h.fg) _⟩
end
theorem lpred1 (h : Hold) (K : Nat) (id : Int) (w : World) (hk : w.cell? ⟨K, 0, none⟩ = some (.int .i64 id)) :
    Calls Tryd.prog 34 #[.agg #[.int .i64 h.x, .int .i64 (h.m : Int), .int .i64 (h.w : Int)], .pointer (some ⟨K, 0, none⟩)] w fun e w' => e = .returned (.bool (h.x == id)) ∧ Below w.heap.size w w' := by
  have k1 : (w.alloc (.cells #[.int .i64 h.x, .int .i64 (h.m : Int), .int .i64 (h.w : Int)] 66)).cell? ⟨K, 0, none⟩ = some (.int .i64 id) := Lib.cell?_alloc_some _ hk
  go_enter Tryd.func34, Tryd.ntmps34
  go_wp2
  go_ret
  exact ⟨rfl, (Below.refl _ w).alloc (Nat.le_refl _) _⟩
theorem lpred2 (x : Int) (K : Nat) (id : Int) (w : World) (hk : w.cell? ⟨K, 0, none⟩ = some (.int .i64 id)) :
    Calls Tryd.prog 36 #[.int .i64 x, .pointer (some ⟨K, 0, none⟩)] w fun e w' => e = .returned (.bool (x == id)) ∧ Below w.heap.size w w' := by
  go_enter Tryd.func36, Tryd.ntmps36
  go_wp2
  go_ret
  exact ⟨rfl, Below.refl _ w⟩
theorem lpred3 (p : Int × Nat) (K : Nat) (id : Int) (w : World) (hk : w.cell? ⟨K, 0, none⟩ = some (.int .i64 id)) :
    Calls Tryd.prog 38 #[.agg #[.int .i64 p.1, .int .i64 (p.2 : Int)], .pointer (some ⟨K, 0, none⟩)] w fun e w' => e = .returned (.bool (p.1 == id)) ∧ Below w.heap.size w w' := by
  have k1 : (w.alloc (.cells #[.int .i64 p.1, .int .i64 (p.2 : Int)] 68)).cell? ⟨K, 0, none⟩ = some (.int .i64 id) := Lib.cell?_alloc_some _ hk
  go_enter Tryd.func38, Tryd.ntmps38
  go_wp2
  go_ret
  exact ⟨rfl, (Below.refl _ w).alloc (Nat.le_refl _) _⟩
theorem Bk.kp_bk {v : Value} {w W : World} {K : Nat} {t : TypeId} {cs : Array Value} (hk : Bk w K t cs) (hW : Kpf (fun i => v.ownBlock = some i) w W) (hv : v.ownBlock ≠ some K) : Bk W K t cs := hW.bk hk hv
set_option maxRecDepth 100000 in
set_option maxHeartbeats 4000000 in
theorem leave_any {w : World} {F : Nat → Prop} {g : Nat} {vh ve vw : Value} {q : Que} (h : Qm w F g vh ve vw q) (hF : ∀ i, F i → i < w.heap.size) {N : Nat} (hb : q.few N) (hN : N ≤ 100000) (x : Int) :
    Calls Tryd.prog 19 #[.pointer (some ⟨g, 0, none⟩), .int .i64 x] w fun e w' => e = .returned (.bool (decide ((q.leave x).hs.length + (q.leave x).ws.length < q.hs.length + q.ws.length))) ∧ Kpf F w w' ∧ ∃ vh' ve' vw', Qm w' F g vh' ve' vw' (q.leave x) := by
  have eg1 := enters_of Tryd.func34 (by kernel_rfl) rfl
  have eg2 := enters_of Tryd.func36 (by kernel_rfl) rfl
  have eg3 := enters_of Tryd.func38 (by kernel_rfl) rfl
  have EG1 := Lib.hid eg1
  have EG2 := Lib.hid eg2
  have EG3 := Lib.hid eg3
  obtain ⟨K, hK⟩ : ∃ K, K = w.heap.size := ⟨_, rfl⟩
  have HK := Lib.hid hK
  have KB := Lib.hid (show Bk (w.alloc (.cells #[.int .i64 x] 3)) K 3 #[.int .i64 x] from by rw [hK]; exact Bk.new w _ _)
  have H1 := Lib.hid (h.alloc (.cells #[.int .i64 x] 3))
  have P1 := Lib.hid ((Kpf.refl F w).alloc (.cells #[.int .i64 x] 3))
  have FK := Lib.hid (show ¬ F K from fun hf => by have := hF K hf; omega)
  have HB := Lib.hid hb
  have hb1 : q.hs.length + q.ws.length ≤ 100000 := Nat.le_trans hb.1 hN
  have hb2 : q.eg.length ≤ 100000 := Nat.le_trans hb.2 hN
  have y0 : (w.alloc (.cells #[.int .i64 x] 3)).cell? ⟨g, 0, none⟩ = some vh := H1.out.bk.cell 0
  have y2 : (w.alloc (.cells #[.int .i64 x] 3)).cell? ⟨g, 2, none⟩ = some vw := H1.out.bk.cell 2
  obtain ⟨sa, sc, hvh⟩ := h.hs.slice
  obtain ⟨ta, tc, hvw⟩ := h.ws.slice
  obtain ⟨ra, rc, hve⟩ := h.eg.slice
  subst hvh hvw hve
  have wr1 : IntKind.i64.wrap ((q.hs.length : Int) + (q.ws.length : Int)) = (q.hs.length : Int) + (q.ws.length : Int) := by rw [IntKind.wrap_i64]; omega
  clear h hF hb hN eg1 eg2 eg3 hK
  go_enter Tryd.func19, Tryd.ntmps19
  go_upto_region 1 with fail
  rw [← HK.out]
  generalize w.alloc (.cells #[.int .i64 x] 3) = w1 at *
  go_quiet (fail)
  generalize hwd : w1.drewN _ = w2
  have H2 := Lib.hid (show Qm w2 F g _ _ _ q from by rw [← hwd]; exact H1.out.drewN _)
  have P2 := Lib.hid (show Kpf F w w2 from by rw [← hwd]; exact P1.out.drewN _)
  have KB2 := Lib.hid (show Bk w2 K 3 #[.int .i64 x] from by rw [← hwd]; exact KB.out.drewN _)
  have z0 : w2.cell? ⟨g, 0, none⟩ = some (.slice sa q.hs.length sc) := H2.out.bk.cell 0
  have fz2 := H2.out.bk.fz
  have D1 := Lib.hid (del_hold w2 F _ q.hs (fun h => h.x == x) _ #[.pointer (some ⟨K, 0, none⟩)] EG1.out H2.out.hs (by omega) fun W h _ hW => lpred1 h K x W ((KB2.out.kp_bk hW fun e => FK.out (own_in H2.out.hs K e)).cell 0))
  clear H1 P1 KB y0 y2 hwd
  as_aux_lemma =>
    go_wp2_with fail
    refine D1.out.mono ?_
    rintro e w3 ⟨vh', rfl, hr3, hk3⟩
    obtain ⟨xa3, xc3, rfl⟩ := hr3.slice
    have R3 := Lib.hid hr3
    have K3 := Lib.hid hk3
    have Q3 := Lib.hid (H2.out.put0 hk3 (fun i h => h) hr3)
    have KB3 := Lib.hid ((KB2.out.kp_bk hk3 fun e => FK.out (own_in H2.out.hs K e)).far (show K ≠ g from fun e => FK.out (by rw [e]; exact H2.out.fg)) (p := ⟨g, 0, none⟩) (.slice xa3 (q.hs.filter fun h => !(h.x == x)).length xc3))
    have P3 := Lib.hid (P2.out.same Q3.out.2)
    have b3 := Lib.hid (kp_apart H2.out.hs hk3 H2.out.bk (by decide))
    have c0 : w3.cell? ⟨g, 0, none⟩ = some (.slice sa q.hs.length sc) := by rw [World.cell?_of_block (w := w2) b3.out]; exact z0
    have fz3 : w3.frozen? ⟨g, 0, none⟩ = false := by rw [World.frozen?_of_block (w := w2) b3.out]; exact fz2 0
    clear hr3 hk3 D1 z0 fz2 H2 P2 KB2 b3
    go_upto_region 3 with fail
    generalize w3.setCell ⟨g, 0, none⟩ _ = w4 at *
    have z1 : w4.cell? ⟨g, 1, none⟩ = some (.slice ra q.eg.length rc) := Q3.out.1.bk.cell 1
    have fz4 := Q3.out.1.bk.fz
    have D2 := Lib.hid (del_int w4 F _ q.eg (fun y => y == x) _ #[.pointer (some ⟨K, 0, none⟩)] EG2.out Q3.out.1.eg (by omega) fun W h _ hW => lpred2 h K x W ((KB3.out.kp_bk hW fun e => FK.out (own_in Q3.out.1.eg K e)).cell 0))
    clear c0 fz3
    as_aux_lemma =>
      go_wp2_with fail
      refine D2.out.mono ?_
      rintro e w5 ⟨ve', rfl, hr5, hk5⟩
      obtain ⟨xa5, xc5, rfl⟩ := hr5.slice
      have Q5 := Lib.hid (Q3.out.1.put1 hk5 (fun i h => h) hr5)
      have KB5 := Lib.hid ((KB3.out.kp_bk hk5 fun e => FK.out (own_in Q3.out.1.eg K e)).far (show K ≠ g from fun e => FK.out (by rw [e]; exact Q3.out.1.fg)) (p := ⟨g, 1, none⟩) (.slice xa5 (q.eg.filter fun y => !(y == x)).length xc5))
      have P5 := Lib.hid (P3.out.same Q5.out.2)
      have b5 := Lib.hid (kp_apart Q3.out.1.eg hk5 Q3.out.1.bk (by decide))
      have c1 : w5.cell? ⟨g, 1, none⟩ = some (.slice ra q.eg.length rc) := by rw [World.cell?_of_block (w := w4) b5.out]; exact z1
      have fz5 : w5.frozen? ⟨g, 1, none⟩ = false := by rw [World.frozen?_of_block (w := w4) b5.out]; exact fz4 1
      clear hr5 hk5 D2 z1 fz4 Q3 KB3 P3 b5
      go_upto_region 4 with fail
      generalize w5.setCell ⟨g, 1, none⟩ _ = w6 at *
      have z2 : w6.cell? ⟨g, 2, none⟩ = some (.slice ta q.ws.length tc) := Q5.out.1.bk.cell 2
      have fz6 := Q5.out.1.bk.fz
      have D3 := Lib.hid (del_wish w6 F _ q.ws (fun p => p.1 == x) _ #[.pointer (some ⟨K, 0, none⟩)] EG3.out Q5.out.1.ws (by omega) fun W h _ hW => lpred3 h K x W ((KB5.out.kp_bk hW fun e => FK.out (own_in Q5.out.1.ws K e)).cell 0))
      clear c1 fz5
      as_aux_lemma =>
        go_wp2_with fail
        refine D3.out.mono ?_
        rintro e w7 ⟨vw', rfl, hr7, hk7⟩
        obtain ⟨xa7, xc7, rfl⟩ := hr7.slice
        have Q7 := Lib.hid (Q5.out.1.put2 hk7 (fun i h => h) hr7)
        have P7 := Lib.hid (P5.out.same Q7.out.2)
        have b7 := Lib.hid (kp_apart Q5.out.1.ws hk7 Q5.out.1.bk (by decide))
        have c2 : w7.cell? ⟨g, 2, none⟩ = some (.slice ta q.ws.length tc) := by rw [World.cell?_of_block (w := w6) b7.out]; exact z2
        have fz7 : w7.frozen? ⟨g, 2, none⟩ = false := by rw [World.frozen?_of_block (w := w6) b7.out]; exact fz6 2
        clear hr7 hk7 D3 z2 fz6 Q5 KB5 P5 b7
        go_upto_region 5 with fail
        generalize w7.setCell ⟨g, 2, none⟩ _ = w8 at *
        clear c2 fz7
        obtain ⟨a8, c8, e8⟩ := Q7.out.1.hs.slice
        obtain ⟨d8, f8, e9⟩ := Q7.out.1.ws.slice
        have LQ := Lib.hid (show Qm w8 F g _ _ _ (q.leave x) from Q7.out.1)
        have l1 := Lib.hid (Nat.le_trans (List.length_filter_le (fun h : Hold => !(h.x == x)) q.hs) (Nat.le_refl _))
        have l2 := Lib.hid (Nat.le_trans (List.length_filter_le (fun p : Int × Nat => !(p.1 == x)) q.ws) (Nat.le_refl _))
        have o0 : w8.cell? ⟨g, 0, none⟩ = some (.slice a8 (q.leave x).hs.length c8) := by rw [LQ.out.bk.cell 0]; exact congrArg some e8
        have o2 : w8.cell? ⟨g, 2, none⟩ = some (.slice d8 (q.leave x).ws.length f8) := by rw [LQ.out.bk.cell 2]; exact congrArg some e9
        have l1b : (q.leave x).hs.length ≤ q.hs.length := l1.out
        have l2b : (q.leave x).ws.length ≤ q.ws.length := l2.out
        have wr2 : IntKind.i64.wrap (((q.leave x).hs.length : Int) + ((q.leave x).ws.length : Int)) = ((q.leave x).hs.length : Int) + ((q.leave x).ws.length : Int) := by rw [IntKind.wrap_i64]; omega
        clear Q7 e8 e9
        obtain ⟨m1, hm1⟩ : ∃ m1, m1 = (q.leave x).hs.length := ⟨_, rfl⟩
        obtain ⟨m2, hm2⟩ : ∃ m2, m2 = (q.leave x).ws.length := ⟨_, rfl⟩
        have M1 := Lib.hid hm1
        have M2 := Lib.hid hm2
        rw [← hm1] at o0 l1b wr2
        rw [← hm2] at o2 l2b wr2
        clear l1 l2 hm1 hm2
        by_cases hd : m1 + m2 < q.hs.length + q.ws.length
        · have hd2 : decide ((m1 : Int) + (m2 : Int) < (q.hs.length : Int) + (q.ws.length : Int)) = true := decide_eq_true (by omega)
          have HD := Lib.hid (decide_eq_true hd)
          have hd3 : (m1 : Int) + (m2 : Int) < (q.hs.length : Int) + (q.ws.length : Int) := by omega
          clear hd
          go_quiet (fail)
          go_wp2
          go_ret
          exact ⟨by have hD := HD.out; rw [M1.out, M2.out] at hD; rw [hD]; rfl, P7.out.drewN _, _, _, _, LQ.out.drewN _⟩
        · have hd2 : decide ((m1 : Int) + (m2 : Int) < (q.hs.length : Int) + (q.ws.length : Int)) = false := decide_eq_false (by omega)
          have HD := Lib.hid (decide_eq_false hd)
          have hd3 : ¬ ((m1 : Int) + (m2 : Int) < (q.hs.length : Int) + (q.ws.length : Int)) := by omega
          clear hd
          go_quiet (fail)
          go_wp2
          go_ret
          exact ⟨by have hD := HD.out; rw [M1.out, M2.out] at hD; rw [hD]; rfl, P7.out.drewN _, _, _, _, LQ.out.drewN _⟩
end Go.Proofs.YtnpnpkaklamboaaDoor
