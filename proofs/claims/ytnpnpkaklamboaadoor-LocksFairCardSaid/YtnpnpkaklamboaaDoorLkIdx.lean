/- slices.IndexFunc at a queue's three rows, over any predicate; who holds; what is free. -/
import Derived.Test.YtnpnpkaklamboaaDoorLkMem
import Derived.Shelf.Abstract
import Derived.Deep.Cut
set_option linter.unusedVariables false
set_option linter.unusedSimpArgs false
namespace Go.Proofs.YtnpnpkaklamboaaDoor
open Go.RowKit Go.Shelf

set_option maxRecDepth 100000 in
set_option maxHeartbeats 2000000 in
theorem idx_hold (w : World) (F : Nat → Prop) (v : Value) (l : List Hold) (p : Hold → Bool) (g : Nat) (lb : Array Value) (eg : ∀ args w, (callFunc g args).run Tryd.prog w = .ok (.enter g args) w) (hr : Rk w F 66 3 hC v l) (hb : l.length ≤ 1000000) (hp : PB g lb hV p l w) :
    Calls Tryd.prog 49 #[v, .func (.func g) #[] lb] w fun e w' => e = .returned (.int .i64 (idxP p l)) ∧ Below w.heap.size w w' := by
  obtain ⟨sa, sc, hv⟩ := hr.slice
  have SV := Lib.hid hv
  have R := Lib.hid hr
  have HP := Lib.hid hp
  have HB := Lib.hid hb
  obtain ⟨n, hn⟩ : ∃ n, n = l.length := ⟨_, rfl⟩
  have HN := Lib.hid hn
  rw [hv, ← hn]
  have n64 : n ≤ 1000000 := by rw [hn]; exact hb
  clear hr hp hv hn hb
  go_enter Tryd.func49, Tryd.ntmps49
  go_wp2_with fail
  go_loopw [8] (fun i wr => ∃ j : Nat, j ≤ n ∧ i = .int .i64 j ∧ (∀ t (ht : t < l.length), t < j → p l[t] = false) ∧ Below w.heap.size w wr) (fun i _ => n - (intOf i).toNat)
  case atStart => exact ⟨0, Nat.zero_le _, rfl, fun t _ ht => absurd ht (Nat.not_lt_zero t), Below.refl _ w⟩
  case round =>
    obtain ⟨j, hj, rfl, hno, hbl⟩ := hrel
    have NO := Lib.hid hno
    have BL := Lib.hid hbl
    clear hno hbl
    by_cases hlt : j < n
    · have HLT := Lib.hid hlt
      have hjl : j < l.length := by rw [← HN.out]; exact hlt
      rcases R.out with ⟨_, hnil⟩ | ⟨b, off, cap, cur, hv2, hF, hA⟩
      · rw [hnil] at hjl; exact absurd hjl (Nat.not_lt_zero _)
      · rw [SV.out] at hv2
        have hA2 := hA.kept BL.out
        obtain ⟨rfl, -⟩ : sa = some ⟨b, off, none⟩ ∧ sc = cap := by simpa using hv2
        obtain ⟨y, hy⟩ : ∃ y, y = l[j] := ⟨_, rfl⟩
        have HY := Lib.hid hy
        have Y := Lib.hid (show wr.rangeAt b (off + j * 3) (hC y) from by rw [HY.out]; exact hA2.range hjl)
        have CC := Lib.hid (HP.out wr y (by rw [HY.out]; exact List.getElem_mem hjl) BL.out)
        obtain ⟨py, hpy⟩ : ∃ py, py = p y := ⟨_, rfl⟩
        have HPY := Lib.hid hpy
        rw [← hpy] at CC
        clear hv2 hA hA2 hF hy hpy
        as_aux_lemma =>
          go_wp2_with (refine load_hold rfl _ rfl b (off + j * 3) y rfl Y.out ?_)
          refine CC.out.mono ?_
          rintro e w2 ⟨rfl, hb2⟩
          have B2 := Lib.hid hb2
          clear hb2
          cases py with
          | true =>
            go_wp2
            go_ret
            exact ⟨by rw [idxP_hit hjl (by rw [← HY.out, ← HPY.out]) (fun t ht htj => NO.out t ht htj)]; rfl, B2.out⟩
          | false =>
            go_wp2
            go_roundw
            case rel => exact ⟨j + 1, by have := HLT.out; omega, by go_num, fun t ht htj => by
              by_cases e : t = j
              · subst e; rw [← HY.out, ← HPY.out]
              · exact NO.out t ht (by omega), B2.out⟩
            case measure => have := HLT.out; simp [intOf]; omega
    · obtain rfl : j = n := by omega
      clear hlt
      go_wp2
      go_ret
      exact ⟨by rw [idxP_miss fun t ht => NO.out t ht (by rw [HN.out]; exact ht)]; rfl, BL.out⟩

set_option maxRecDepth 100000 in
set_option maxHeartbeats 2000000 in
theorem idx_int (w : World) (F : Nat → Prop) (v : Value) (l : List Int) (p : Int → Bool) (g : Nat) (lb : Array Value) (eg : ∀ args w, (callFunc g args).run Tryd.prog w = .ok (.enter g args) w) (hr : Rk w F 3 1 eC v l) (hb : l.length ≤ 1000000) (hp : PB g lb eV p l w) :
    Calls Tryd.prog 39 #[v, .func (.func g) #[] lb] w fun e w' => e = .returned (.int .i64 (idxP p l)) ∧ Below w.heap.size w w' := by
  obtain ⟨sa, sc, hv⟩ := hr.slice
  have SV := Lib.hid hv
  have R := Lib.hid hr
  have HP := Lib.hid hp
  have HB := Lib.hid hb
  obtain ⟨n, hn⟩ : ∃ n, n = l.length := ⟨_, rfl⟩
  have HN := Lib.hid hn
  rw [hv, ← hn]
  have n64 : n ≤ 1000000 := by rw [hn]; exact hb
  clear hr hp hv hn hb
  go_enter Tryd.func39, Tryd.ntmps39
  go_wp2_with fail
  go_loopw [8] (fun i wr => ∃ j : Nat, j ≤ n ∧ i = .int .i64 j ∧ (∀ t (ht : t < l.length), t < j → p l[t] = false) ∧ Below w.heap.size w wr) (fun i _ => n - (intOf i).toNat)
  case atStart => exact ⟨0, Nat.zero_le _, rfl, fun t _ ht => absurd ht (Nat.not_lt_zero t), Below.refl _ w⟩
  case round =>
    obtain ⟨j, hj, rfl, hno, hbl⟩ := hrel
    have NO := Lib.hid hno
    have BL := Lib.hid hbl
    clear hno hbl
    by_cases hlt : j < n
    · have HLT := Lib.hid hlt
      have hjl : j < l.length := by rw [← HN.out]; exact hlt
      rcases R.out with ⟨_, hnil⟩ | ⟨b, off, cap, cur, hv2, hF, hA⟩
      · rw [hnil] at hjl; exact absurd hjl (Nat.not_lt_zero _)
      · rw [SV.out] at hv2
        have hA2 := hA.kept BL.out
        obtain ⟨rfl, -⟩ : sa = some ⟨b, off, none⟩ ∧ sc = cap := by simpa using hv2
        obtain ⟨y, hy⟩ : ∃ y, y = l[j] := ⟨_, rfl⟩
        have HY := Lib.hid hy
        have y0 : wr.cell? ⟨b, off + j, none⟩ = some (.int .i64 y) := by
          have := (hA2.cell hjl (i := 0) (u := .int .i64 l[j]) rfl)
          rw [← HY.out] at this
          simpa using this
        have CC := Lib.hid (HP.out wr y (by rw [HY.out]; exact List.getElem_mem hjl) BL.out)
        obtain ⟨py, hpy⟩ : ∃ py, py = p y := ⟨_, rfl⟩
        have HPY := Lib.hid hpy
        rw [← hpy] at CC
        clear hv2 hA hA2 hF hy hpy
        as_aux_lemma =>
          go_wp2_with fail
          refine CC.out.mono ?_
          rintro e w2 ⟨rfl, hb2⟩
          have B2 := Lib.hid hb2
          clear hb2
          cases py with
          | true =>
            go_wp2
            go_ret
            exact ⟨by rw [idxP_hit hjl (by rw [← HY.out, ← HPY.out]) (fun t ht htj => NO.out t ht htj)]; rfl, B2.out⟩
          | false =>
            go_wp2
            go_roundw
            case rel => exact ⟨j + 1, by have := HLT.out; omega, by go_num, fun t ht htj => by
              by_cases e : t = j
              · subst e; rw [← HY.out, ← HPY.out]
              · exact NO.out t ht (by omega), B2.out⟩
            case measure => have := HLT.out; simp [intOf]; omega
    · obtain rfl : j = n := by omega
      clear hlt
      go_wp2
      go_ret
      exact ⟨by rw [idxP_miss fun t ht => NO.out t ht (by rw [HN.out]; exact ht)]; rfl, BL.out⟩

set_option maxRecDepth 100000 in
set_option maxHeartbeats 2000000 in
theorem idx_wish (w : World) (F : Nat → Prop) (v : Value) (l : List (Int × Nat)) (p : (Int × Nat) → Bool) (g : Nat) (lb : Array Value) (eg : ∀ args w, (callFunc g args).run Tryd.prog w = .ok (.enter g args) w) (hr : Rk w F 68 2 wC v l) (hb : l.length ≤ 1000000) (hp : PB g lb wV p l w) :
    Calls Tryd.prog 51 #[v, .func (.func g) #[] lb] w fun e w' => e = .returned (.int .i64 (idxP p l)) ∧ Below w.heap.size w w' := by
  obtain ⟨sa, sc, hv⟩ := hr.slice
  have SV := Lib.hid hv
  have R := Lib.hid hr
  have HP := Lib.hid hp
  have HB := Lib.hid hb
  obtain ⟨n, hn⟩ : ∃ n, n = l.length := ⟨_, rfl⟩
  have HN := Lib.hid hn
  rw [hv, ← hn]
  have n64 : n ≤ 1000000 := by rw [hn]; exact hb
  clear hr hp hv hn hb
  go_enter Tryd.func51, Tryd.ntmps51
  go_wp2_with fail
  go_loopw [8] (fun i wr => ∃ j : Nat, j ≤ n ∧ i = .int .i64 j ∧ (∀ t (ht : t < l.length), t < j → p l[t] = false) ∧ Below w.heap.size w wr) (fun i _ => n - (intOf i).toNat)
  case atStart => exact ⟨0, Nat.zero_le _, rfl, fun t _ ht => absurd ht (Nat.not_lt_zero t), Below.refl _ w⟩
  case round =>
    obtain ⟨j, hj, rfl, hno, hbl⟩ := hrel
    have NO := Lib.hid hno
    have BL := Lib.hid hbl
    clear hno hbl
    by_cases hlt : j < n
    · have HLT := Lib.hid hlt
      have hjl : j < l.length := by rw [← HN.out]; exact hlt
      rcases R.out with ⟨_, hnil⟩ | ⟨b, off, cap, cur, hv2, hF, hA⟩
      · rw [hnil] at hjl; exact absurd hjl (Nat.not_lt_zero _)
      · rw [SV.out] at hv2
        have hA2 := hA.kept BL.out
        obtain ⟨rfl, -⟩ : sa = some ⟨b, off, none⟩ ∧ sc = cap := by simpa using hv2
        obtain ⟨y, hy⟩ : ∃ y, y = l[j] := ⟨_, rfl⟩
        have HY := Lib.hid hy
        have Y := Lib.hid (show wr.rangeAt b (off + j * 2) (wC y) from by rw [HY.out]; exact hA2.range hjl)
        have CC := Lib.hid (HP.out wr y (by rw [HY.out]; exact List.getElem_mem hjl) BL.out)
        obtain ⟨py, hpy⟩ : ∃ py, py = p y := ⟨_, rfl⟩
        have HPY := Lib.hid hpy
        rw [← hpy] at CC
        clear hv2 hA hA2 hF hy hpy
        as_aux_lemma =>
          go_wp2_with (refine load_wish rfl _ rfl b (off + j * 2) y rfl Y.out ?_)
          refine CC.out.mono ?_
          rintro e w2 ⟨rfl, hb2⟩
          have B2 := Lib.hid hb2
          clear hb2
          cases py with
          | true =>
            go_wp2
            go_ret
            exact ⟨by rw [idxP_hit hjl (by rw [← HY.out, ← HPY.out]) (fun t ht htj => NO.out t ht htj)]; rfl, B2.out⟩
          | false =>
            go_wp2
            go_roundw
            case rel => exact ⟨j + 1, by have := HLT.out; omega, by go_num, fun t ht htj => by
              by_cases e : t = j
              · subst e; rw [← HY.out, ← HPY.out]
              · exact NO.out t ht (by omega), B2.out⟩
            case measure => have := HLT.out; simp [intOf]; omega
    · obtain rfl : j = n := by omega
      clear hlt
      go_wp2
      go_ret
      exact ⟨by rw [idxP_miss fun t ht => NO.out t ht (by rw [HN.out]; exact ht)]; rfl, BL.out⟩

theorem idxP_any {α : Type} (p : α → Bool) (l : List α) : l.any p = decide (0 ≤ idxP p l) := by
  rcases idxP_spec p l with ⟨e, h⟩ | ⟨i, hi, e, h, _⟩
  · rw [e]
    have : l.any p = false := by rw [List.any_eq_false]; intro x hx; rw [h x hx]; simp
    rw [this]
    rfl
  · rw [e]
    have : l.any p = true := List.any_eq_true.2 ⟨l[i], List.getElem_mem hi, h⟩
    rw [this, decide_eq_true (by omega)]
set_option maxRecDepth 100000 in
set_option maxHeartbeats 1000000 in
theorem has_hold (w : World) (F : Nat → Prop) (v : Value) (l : List Hold) (p : Hold → Bool) (g : Nat) (lb : Array Value) (eg : ∀ args w, (callFunc g args).run Tryd.prog w = .ok (.enter g args) w) (hr : Rk w F 66 3 hC v l) (hb : l.length ≤ 1000000) (hp : PB g lb hV p l w) :
    Calls Tryd.prog 52 #[v, .func (.func g) #[] lb] w fun e w' => e = .returned (.bool (l.any p)) ∧ Below w.heap.size w w' := by
  have CI := Lib.hid (idx_hold w F v l p g lb eg hr hb hp)
  obtain ⟨sa, sc, hv⟩ := hr.slice
  rw [idxP_any]
  rw [hv] at CI ⊢
  obtain ⟨i, hi⟩ : ∃ i, i = idxP p l := ⟨_, rfl⟩
  rw [← hi] at CI ⊢
  obtain ⟨d, hd⟩ : ∃ d, d = decide (0 ≤ i) := ⟨_, rfl⟩
  have D := Lib.hid hd
  rw [← hd]
  clear hr hp hv hi hd eg
  go_enter Tryd.func52, Tryd.ntmps52
  go_wp2_with fail
  refine CI.out.mono ?_
  rintro e w1 ⟨rfl, hb1⟩
  go_wp2
  go_ret
  exact ⟨by rw [D.out]; rfl, hb1⟩
set_option maxRecDepth 100000 in
set_option maxHeartbeats 2000000 in
theorem find_any {w : World} {F : Nat → Prop} {g : Nat} {vh ve vw : Value} {q : Que} (h : Qm w F g vh ve vw q) (hb : q.hs.length ≤ 1000000) (x : Int) :
    Calls Tryd.prog 32 #[.pointer (some ⟨g, 0, none⟩), .int .i64 x] w fun e w' => e = .returned (.int .i64 (idxP (fun h => h.x == x) q.hs)) ∧ Below w.heap.size w w' := by
  have eg := enters_of Tryd.func50 (by kernel_rfl) rfl
  have H1 := h.alloc (.cells #[.int .i64 x] 3)
  have k1 : (w.alloc (.cells #[.int .i64 x] 3)).cell? ⟨w.heap.size, 0, none⟩ = some (.int .i64 x) := (Bk.new w 3 #[.int .i64 x]).cell 0
  have lt1 : w.heap.size < (w.alloc (.cells #[.int .i64 x] 3)).heap.size := by simp
  have CI := Lib.hid (idx_hold _ F vh q.hs (fun h => h.x == x) _ #[.pointer (some ⟨w.heap.size, 0, none⟩)] eg H1.hs hb fun W h _ hbl => (hpred_any h w.heap.size x W (by rw [hbl.cell (p := ⟨w.heap.size, 0, none⟩) lt1]; exact k1)).mono fun e w' ⟨h1, h2⟩ => ⟨h1, hbl.trans (h2.mono hbl.size)⟩)
  have B1 := Lib.hid ((Below.refl w.heap.size w).alloc (Nat.le_refl _) (.cells #[.int .i64 x] 3))
  have y0 : (w.alloc (.cells #[.int .i64 x] 3)).cell? ⟨g, 0, none⟩ = some vh := H1.bk.cell 0
  obtain ⟨sa, sc, hv⟩ := h.hs.slice
  rw [hv] at CI y0
  obtain ⟨K, hK⟩ : ∃ K, K = w.heap.size := ⟨_, rfl⟩
  rw [← hK] at CI
  have HK := Lib.hid hK
  clear h H1 k1 lt1 hv hK eg
  go_enter Tryd.func32, Tryd.ntmps32
  go_upto_region 1 with fail
  rw [← HK.out]
  generalize w.alloc (.cells #[.int .i64 x] 3) = w1 at *
  go_wp2_with fail
  refine CI.out.mono ?_
  rintro e w2 ⟨rfl, hb2⟩
  go_wp2
  go_ret
  exact ⟨rfl, below_then B1.out hb2 B1.out.size⟩
/-- What goes together, what two are together: as the tables have it; beyond them nothing goes together. -/
def cpN (a b : Nat) : Bool := if a < 7 ∧ b < 7 then Md.comp a b else false
def jnN (a b : Nat) : Nat := if a < 7 ∧ b < 7 then (Md.join a b).toNat else a + b + 7
theorem cpN_eq {a b : Nat} (ha : a ≤ 6) (hb : b ≤ 6) : cpN a b = Md.comp a b := by unfold cpN; rw [if_pos (by omega)]
theorem jnN_all : ∀ a b : Fin 7, 0 ≤ Md.join a.val b.val ∧ Md.join a.val b.val ≤ 6 ∧ (b.val ≠ 0 → Md.join a.val b.val ≠ 0) := by decide +kernel
theorem jnN_mon : ∀ a b c : Fin 7, Md.comp a.val (Md.join b.val c.val) = true → Md.comp a.val b.val = true := by decide +kernel
theorem cpN_sym : ∀ a b : Fin 7, Md.comp a.val b.val = Md.comp b.val a.val := by decide +kernel
theorem jnN_eq {a b : Nat} (ha : a ≤ 6) (hb : b ≤ 6) : ((jnN a b : Nat) : Int) = Md.join a b := by
  unfold jnN
  rw [if_pos (by omega)]
  have := (jnN_all ⟨a, by omega⟩ ⟨b, by omega⟩).1
  dsimp only at this
  omega
theorem jnN_le {a b : Nat} (ha : a ≤ 6) (hb : b ≤ 6) : jnN a b ≤ 6 := by
  have h1 := jnN_eq ha hb
  have := (jnN_all ⟨a, by omega⟩ ⟨b, by omega⟩).2.1
  dsimp only at this
  omega
theorem lawN : Md.Law cpN jnN where
  sy a b := by
    unfold cpN
    by_cases h : a < 7 ∧ b < 7
    · rw [if_pos h, if_pos ⟨h.2, h.1⟩]; exact cpN_sym ⟨a, h.1⟩ ⟨b, h.2⟩
    · rw [if_neg h, if_neg (fun h2 => h ⟨h2.2, h2.1⟩)]
  mon a b c h := by
    unfold cpN at h ⊢
    by_cases hb : b < 7 ∧ c < 7
    · by_cases ha : a < 7 ∧ jnN b c < 7
      · rw [if_pos ha] at h
        rw [if_pos ⟨ha.1, hb.1⟩]
        rw [jnN_eq (by omega) (by omega)] at h
        exact jnN_mon ⟨a, ha.1⟩ ⟨b, hb.1⟩ ⟨c, hb.2⟩ h
      · rw [if_neg ha] at h; cases h
    · have : ¬ (a < 7 ∧ jnN b c < 7) := fun h2 => by
        have := h2.2
        unfold jnN at this
        rw [if_neg hb] at this
        omega
      rw [if_neg this] at h
      cases h
  jz a b hb := by
    unfold jnN
    by_cases h : a < 7 ∧ b < 7
    · rw [if_pos h]
      have := jnN_all ⟨a, h.1⟩ ⟨b, h.2⟩
      have h3 := this.2.2 hb
      dsimp only at this h3
      omega
    · rw [if_neg h]; omega
theorem fpred_any (h : Hold) (hm : h.m ≤ 6) (K1 K2 : Nat) (x : Int) (m : Nat) (hm2 : m ≤ 6) (w : World) (hT : Tab w) (hk1 : w.cell? ⟨K1, 0, none⟩ = some (.int .i64 x)) (hk2 : w.cell? ⟨K2, 0, none⟩ = some (.int .i64 (m : Int))) :
    Calls Tryd.prog 53 #[.agg #[.int .i64 h.x, .int .i64 (h.m : Int), .int .i64 (h.w : Int)], .pointer (some ⟨K1, 0, none⟩), .pointer (some ⟨K2, 0, none⟩)] w fun e w' => e = .returned (.bool (!(h.x == x || cpN m h.m))) ∧ Below w.heap.size w w' := by
  have k1 : (w.alloc (.cells #[.int .i64 h.x, .int .i64 (h.m : Int), .int .i64 (h.w : Int)] 66)).cell? ⟨K1, 0, none⟩ = some (.int .i64 x) := Lib.cell?_alloc_some _ hk1
  have k2 : (w.alloc (.cells #[.int .i64 h.x, .int .i64 (h.m : Int), .int .i64 (h.w : Int)] 66)).cell? ⟨K2, 0, none⟩ = some (.int .i64 (m : Int)) := Lib.cell?_alloc_some _ hk2
  have B1 := Lib.hid ((Below.refl w.heap.size w).alloc (Nat.le_refl _) (.cells #[.int .i64 h.x, .int .i64 (h.m : Int), .int .i64 (h.w : Int)] 66))
  have CC := Lib.hid (comp_any (m : Int) (h.m : Int) _ (hT.below B1.out))
  rw [← cpN_eq hm2 hm] at CC
  obtain ⟨c, hc⟩ : ∃ c, c = cpN m h.m := ⟨_, rfl⟩
  rw [← hc] at CC ⊢
  clear hc hT
  by_cases e : h.x = x
  · have e1 : (h.x != x) = false := by simp [e]
    have e2 : (h.x == x) = true := by simp [e]
    have E2 := Lib.hid e2
    clear e e2
    go_enter Tryd.func53, Tryd.ntmps53
    go_wp2
    go_ret
    exact ⟨by rw [E2.out]; rfl, B1.out⟩
  · have e1 : (h.x != x) = true := by simp [e]
    have e2 : (h.x == x) = false := by simp [e]
    have E2 := Lib.hid e2
    clear e e2
    go_enter Tryd.func53, Tryd.ntmps53
    go_wp2_with fail
    refine CC.out.mono ?_
    rintro e w2 ⟨rfl, hb2⟩
    have B2 := Lib.hid hb2
    clear hb2
    go_wp2
    go_ret
    exact ⟨by rw [E2.out]; cases c <;> rfl, B1.out.trans (B2.out.mono (by simp))⟩
theorem any_free (cp : Nat → Nat → Bool) (q : Que) (x : Int) (m : Nat) : (q.hs.any fun h => !(h.x == x || cp m h.m)) = !q.free cp x m := by
  unfold Que.free
  rw [← List.not_all_eq_any_not]
set_option maxRecDepth 100000 in
set_option maxHeartbeats 2000000 in
theorem free_any {w : World} {F : Nat → Prop} {g : Nat} {vh ve vw : Value} {q : Que} (h : Qm w F g vh ve vw q) (hT : Tab w) (hbd : q.bd) (hb : q.hs.length ≤ 1000000) (x : Int) (m : Nat) (hm : m ≤ 6) :
    Calls Tryd.prog 41 #[.pointer (some ⟨g, 0, none⟩), .int .i64 x, .int .i64 (m : Int)] w fun e w' => e = .returned (.bool (q.free cpN x m)) ∧ Below w.heap.size w w' := by
  have eg := enters_of Tryd.func53 (by kernel_rfl) rfl
  have H1 := (h.alloc (.cells #[.int .i64 x] 3)).alloc (.cells #[.int .i64 (m : Int)] 3)
  have k1 : ((w.alloc (.cells #[.int .i64 x] 3)).alloc (.cells #[.int .i64 (m : Int)] 3)).cell? ⟨w.heap.size, 0, none⟩ = some (.int .i64 x) := ((Bk.new w 3 #[.int .i64 x]).alloc _).cell 0
  have k2 : ((w.alloc (.cells #[.int .i64 x] 3)).alloc (.cells #[.int .i64 (m : Int)] 3)).cell? ⟨w.heap.size + 1, 0, none⟩ = some (.int .i64 (m : Int)) := (Bk.new2 w _ 3 #[.int .i64 (m : Int)]).cell 0
  have lt1 : w.heap.size + 1 < ((w.alloc (.cells #[.int .i64 x] 3)).alloc (.cells #[.int .i64 (m : Int)] 3)).heap.size := by simp
  have B1 := Lib.hid (((Below.refl w.heap.size w).alloc (Nat.le_refl _) (.cells #[.int .i64 x] 3)).alloc (by simp) (.cells #[.int .i64 (m : Int)] 3))
  have hT1 := hT.below B1.out
  have CI := Lib.hid (has_hold _ F vh q.hs (fun h => !(h.x == x || cpN m h.m)) _ #[.pointer (some ⟨w.heap.size, 0, none⟩), .pointer (some ⟨w.heap.size + 1, 0, none⟩)] eg H1.hs hb fun W h hh hbl => (fpred_any h (hbd.hs h hh).2.1 w.heap.size (w.heap.size + 1) x m hm W (hT1.below hbl)
      (by rw [hbl.cell (p := ⟨w.heap.size, 0, none⟩) (by have := lt1; show w.heap.size < _; omega)]; exact k1) (by rw [hbl.cell (p := ⟨w.heap.size + 1, 0, none⟩) lt1]; exact k2)).mono fun e w' ⟨h1, h2⟩ => ⟨h1, hbl.trans (h2.mono hbl.size)⟩)
  rw [any_free] at CI
  have y0 : ((w.alloc (.cells #[.int .i64 x] 3)).alloc (.cells #[.int .i64 (m : Int)] 3)).cell? ⟨g, 0, none⟩ = some vh := H1.bk.cell 0
  obtain ⟨sa, sc, hv⟩ := h.hs.slice
  rw [hv] at CI y0
  obtain ⟨K, hK⟩ : ∃ K, K = w.heap.size := ⟨_, rfl⟩
  rw [← hK] at CI
  have HK := Lib.hid hK
  obtain ⟨f, hf⟩ : ∃ f, f = q.free cpN x m := ⟨_, rfl⟩
  rw [← hf] at CI ⊢
  clear h H1 k1 k2 lt1 hv hK eg hf hT hT1 hbd
  go_enter Tryd.func41, Tryd.ntmps41
  go_upto_region 1 with fail
  rw [← HK.out]
  generalize (w.alloc (.cells #[.int .i64 x] 3)).alloc (.cells #[.int .i64 (m : Int)] 3) = w1 at *
  go_wp2_with fail
  refine CI.out.mono ?_
  rintro e w2 ⟨rfl, hb2⟩
  go_wp2
  go_ret
  exact ⟨by cases f <;> rfl, below_then B1.out hb2 B1.out.size⟩

end Go.Proofs.YtnpnpkaklamboaaDoor
