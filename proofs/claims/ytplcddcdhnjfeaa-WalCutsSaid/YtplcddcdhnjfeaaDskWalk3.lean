/- The walks of package disk: Write on every road, Barrier, over, New. -/
import Derived.Test.YtplcddcdhnjfeaaDskWalk2
set_option linter.unusedVariables false
set_option linter.unusedSimpArgs false
namespace Go.Proofs.Ytplcddcdhnjfeaa
open Go.RowKit

theorem write_any {w : World} {B : Nat} {I : Ids} {S : Dsk} (h : Dk w B I S) (i : Int) (d : ByteArray) (hB : B ≤ w.heap.size) (hp : S.pend.length ≤ 8796093022208) :
    Calls Try.prog 27 #[I.ptr, .int .i64 i, .string d] w fun e w' => e = .returned (.int .i64 (S.write i d).2) ∧ ∃ p', Dk w' B (I.with p') (S.write i d).1 ∧ Out w w' I.foot := by
  unfold Dsk.write
  obtain ⟨c0, c1, c2, c3, c4⟩ := h.cells
  rcases hd : S.down with _ | _
  · rw [if_neg (by simp)]
    by_cases hi : 0 ≤ i ∧ i < S.firm.length ∧ d.size = 64
    · rw [if_pos hi]
      obtain ⟨k, rfl⟩ := Int.eq_ofNat_of_zero_le hi.1
      by_cases hf : S.fuel = 0
      · rw [if_pos hf]
        have c := has_any h k
        rw [decide_eq_true ⟨hi.1, hi.2.1⟩] at c
        have b := burn_out h hf
        have t64 : ((d.size : Int) != 64) = false := by simp [hi.2.2]
        rw [hd] at c4
        have C := Lib.hid c; have BU := Lib.hid b
        clear h c b hf hd hi hp hB
        unfold Ids.ptr at C BU ⊢
        go_enter Try.func27, Try.ntmps27
        go_wp2_with fail
        refine C.out.mono ?_
        rintro e w1 ⟨rfl, hw⟩
        subst w1
        go_wp2_with fail
        refine BU.out.mono ?_
        rintro e w1 ⟨rfl, h1, ho1⟩
        have H1 := Lib.hid h1; have HO1 := Lib.hid ho1; clear h1 ho1
        go_wp2
        go_ret
        exact ⟨rfl, I.p, H1.out, HO1.out⟩
      · rw [if_neg hf]
        have := write_good h k d hd (by omega) hi.2.2 hf hB hp
        rw [Int.toNat_natCast]
        exact this
    · rw [if_neg hi]
      have c := has_any h i
      rw [hd] at c4
      by_cases hh : 0 ≤ i ∧ i < S.firm.length
      · rw [decide_eq_true hh] at c
        have t64 : ((d.size : Int) != 64) = true := by simp; intro e; exact hi ⟨hh.1, hh.2, by omega⟩
        have C := Lib.hid c; have H := Lib.hid h
        clear h c hd hi hp hB hh
        unfold Ids.ptr at C ⊢
        go_enter Try.func27, Try.ntmps27
        go_wp2_with fail
        refine C.out.mono ?_
        rintro e w1 ⟨rfl, hw⟩
        subst w1
        go_wp2
        go_ret
        exact ⟨rfl, I.p, H.out, Out.refl _ _⟩
      · rw [decide_eq_false hh] at c
        have C := Lib.hid c; have H := Lib.hid h
        clear h c hd hi hp hB hh
        unfold Ids.ptr at C ⊢
        go_enter Try.func27, Try.ntmps27
        go_wp2_with fail
        refine C.out.mono ?_
        rintro e w1 ⟨rfl, hw⟩
        subst w1
        go_wp2
        go_ret
        exact ⟨rfl, I.p, H.out, Out.refl _ _⟩
  · rw [if_pos rfl]
    rw [hd] at c4
    have H := Lib.hid h
    clear h hd hp hB
    unfold Ids.ptr
    go_enter Try.func27, Try.ntmps27
    go_wp2
    go_ret
    exact ⟨rfl, I.p, H.out, Out.refl _ _⟩

def apply (l : List ByteArray) (ps : List (Nat × ByteArray)) : List ByteArray := ps.foldl (fun l p => l.set p.1 p.2) l
theorem apply_length (ps : List (Nat × ByteArray)) : ∀ l, (apply l ps).length = l.length := by
  induction ps with
  | nil => intro l; rfl
  | cons p ps ih => intro l; show (apply (l.set p.1 p.2) ps).length = _; rw [ih, List.length_set]
theorem apply_take (l : List ByteArray) (ps : List (Nat × ByteArray)) (i : Nat) (hi : i < ps.length) : apply l (ps.take (i + 1)) = (apply l (ps.take i)).set ps[i].1 ps[i].2 := by
  unfold apply
  rw [List.take_succ_eq_append_getElem hi, List.foldl_append]
  rfl
theorem apply_sizes (ps : List (Nat × ByteArray)) (hps : ∀ p ∈ ps, p.2.size = 64) : ∀ l : List ByteArray, (∀ i, i < l.length → (l.getD i ⟨#[]⟩).size = 64) → ∀ i, i < l.length → ((apply l ps).getD i ⟨#[]⟩).size = 64 := by
  induction ps with
  | nil => intro l hl i hi; exact hl i hi
  | cons p ps ih =>
    intro l hl i hi
    refine ih (fun q hq => hps q (by simp [hq])) (l.set p.1 p.2) ?_ i (by simpa using hi)
    intro j hj
    rw [List.length_set] at hj
    have hs := hl j hj
    rw [List.getD_eq_getElem?_getD] at hs ⊢
    rw [List.getElem?_set]
    by_cases e : p.1 = j
    · rw [if_pos e, if_pos (by omega)]; exact hps p (by simp)
    · rw [if_neg e]; exact hs
theorem set_sizes {l : List ByteArray} (hl : ∀ i, i < l.length → (l.getD i ⟨#[]⟩).size = 64) (k : Nat) (d : ByteArray) (h : d.size = 64) : ∀ i, i < (l.set k d).length → ((l.set k d).getD i ⟨#[]⟩).size = 64 := by
  intro i hi
  rw [List.length_set] at hi
  have hs := hl i hi
  rw [List.getD_eq_getElem?_getD] at hs ⊢
  rw [List.getElem?_set]
  by_cases e : k = i
  · subst e; rw [if_pos rfl, if_pos hi]; exact h
  · rw [if_neg e]; exact hs

def Dsk.firmed (S : Dsk) (l : List ByteArray) : Dsk := { S with firm := l }
def Dsk.synced (S : Dsk) : Dsk := { S.burnt with firm := apply S.firm S.pend, pend := [] }
theorem Dk.setFirm {w : World} {B : Nat} {I : Ids} {S : Dsk} (h : Dk w B I S) (k : Nat) (d : ByteArray) (hk : k < S.firm.length) (h64 : d.size = 64) : Dk (w.setCell ⟨I.f, k, none⟩ (.string d)) B I (S.firmed (S.firm.set k d)) :=
  ⟨by have := h.box.far (p := ⟨I.f, k, none⟩) h.gf.symm (.string d); simpa [Ids.box, Dsk.firmed] using this,
   by have := h.firm.set k (.string d) (by simpa using hk); simpa [Dsk.firmed, List.map_set] using this,
   h.now.far h.ne.symm _, owns_of_block h.pend (fun j hj => Below.heap_setCell w _ _ j (h.pg hj).2.1), h.ne, h.bg, h.bf, h.bn,
   ⟨by simp [Dsk.firmed, h.ok.len], by simp [Dsk.firmed, h.ok.one], by simp [Dsk.firmed, h.ok.most], fun p hp => by simpa [Dsk.firmed] using h.ok.pend p hp, h.ok.lo, h.ok.hi, h.ok.sizes, set_sizes h.ok.fsizes k d h64, h.ok.psizes⟩⟩
theorem Dk.setNil {w : World} {B : Nat} {I : Ids} {S : Dsk} (h : Dk w B I S) : Dk (w.setCell ⟨I.g, 2, none⟩ (.slice none 0 0)) B (I.with (.slice none 0 0)) { S with pend := [] } :=
  ⟨h.box.set 2 _, h.firm.far h.gf _, h.now.far h.gn _, World.ownsRow_nil _ _ _ _, h.ne, h.bg, h.bf, h.bn, ⟨h.ok.len, h.ok.one, h.ok.most, fun p hp => by simp at hp, h.ok.lo, h.ok.hi, h.ok.sizes, h.ok.fsizes, fun p hp => by simp at hp⟩⟩
/-- A pending write's two cells. -/
theorem Dk.pcell {w : World} {B : Nat} {I : Ids} {S : Dsk} (h : Dk w B I S) (i : Nat) (hi : i < S.pend.length) :
    ∃ gp c, I.p = .slice (some ⟨gp, 0, none⟩) S.pend.length c ∧ gp < w.heap.size ∧ w.cell? ⟨gp, i * 2, none⟩ = some (.int .i64 (S.pend[i].1 : Int)) ∧ w.cell? ⟨gp, i * 2 + 1, none⟩ = some (.string S.pend[i].2) := by
  rcases h.pend.2 with ⟨e, e2⟩ | ⟨g, cap, cur, e, hg, hh, hn, hc, hs, ht⟩
  · omega
  · have hb : Bk w g 76 cur := hh
    obtain ⟨q0, q1⟩ := pcells_get S.pend i hi
    refine ⟨g, cap, e, hb.lt, ?_, ?_⟩
    · rw [hb.cell, ← q0, ← ht, List.getElem?_take_of_lt (by omega), Array.getElem?_toList]
    · rw [hb.cell, ← q1, ← ht, List.getElem?_take_of_lt (by omega), Array.getElem?_toList]

theorem Dk.plen {w : World} {B : Nat} {I : Ids} {S : Dsk} (h : Dk w B I S) : S.pend.length ≤ 9223372036854775807 := by
  rcases h.pend.2 with ⟨e, e2⟩ | ⟨g, cap, cur, e, hg, hh, hn, hc, hs, ht⟩
  · omega
  · unfold maxLen at hc; omega

set_option maxHeartbeats 2000000 in
theorem barrier_good {w : World} {B : Nat} {I : Ids} {S : Dsk} (h : Dk w B I S) (hd : S.down = false) (hf : S.fuel ≠ 0) :
    Calls Try.prog 29 #[I.ptr] w fun e w' => e = .returned (.int .i64 0) ∧ Dk w' B (I.with (.slice none 0 0)) S.synced ∧ Out w w' I.foot := by
  obtain ⟨c0, c1, c2, c3, c4⟩ := h.cells
  rw [hd] at c4
  have b := burn_on h hf
  have lo : ∀ i, i < S.pend.length → S.pend[i]!.1 < S.firm.length ∧ S.pend[i]!.2.size = 64 := fun i hi => by
    rw [getElem!_pos S.pend i hi]
    exact ⟨h.ok.pend _ (List.getElem_mem hi), h.ok.psizes _ (List.getElem_mem hi)⟩
  obtain ⟨a, c, ep⟩ := h.pval
  have LO := Lib.hid lo
  have hpl := h.plen
  have BU := Lib.hid b
  have EP := Lib.hid ep
  rw [ep] at c2
  clear b h hf hd lo ep
  unfold Ids.ptr at BU ⊢
  go_enter Try.func29, Try.ntmps29
  go_wp2_with fail
  refine BU.out.mono ?_
  rintro e w1 ⟨rfl, h1, ho1⟩
  obtain ⟨c0, c1, c2, c3, c4⟩ := h1.cells
  rw [EP.out] at c2
  have H1 := Lib.hid h1; have HO1 := Lib.hid ho1
  clear c0 c1 c3 c4 h1 ho1
  go_wp2
  go_loopw [24] (fun i wr => ∃ k : Nat, k ≤ S.pend.length ∧ i = .int .i64 k ∧ Dk wr B I (S.burnt.firmed (apply S.firm (S.pend.take k))) ∧ Out w wr I.foot) (fun i _ => S.pend.length - (intOf i).toNat)
  case atStart => exact ⟨0, Nat.zero_le _, rfl, H1.out, HO1.out⟩
  case round =>
    obtain ⟨k, hk, rfl, hD, hO⟩ := hrel
    by_cases hlt : k < S.pend.length
    · obtain ⟨gp, c', e', hgp, q0, q1⟩ := hD.pcell k hlt
      have e2 := EP.out
      rw [e2] at e'
      injection e' with e3 e4 e5
      subst e3 e5
      have hs1 := (LO.out k hlt)
      rw [getElem!_pos S.pend k hlt] at hs1
      obtain ⟨c0, c1, c2, c3, c4⟩ := hD.cells
      have l1 : (S.burnt.firmed (apply S.firm (S.pend.take k))).firm.length = S.firm.length := apply_length _ _
      rw [l1] at c0
      have hst := apply_take S.firm S.pend k hlt
      have q0' : wr.cell? ⟨gp, k * 2, none⟩ = some (.int .i64 (S.pend[k].1 : Int)) := q0
      have q1' : wr.cell? ⟨gp, k * 2 + 1, none⟩ = some (.string S.pend[k].2) := q1
      have HLT := Lib.hid hlt
      generalize S.pend[k] = pk at *
      obtain ⟨s, d⟩ := pk
      simp only at hs1 hst q0' q1'
      have hs0 := hs1.1
      have hs64 := hs1.2
      have hg := hD.box.lt; have hfl := hD.firm.lt
      have fc := (hD.firm.alloc (.cells #[.int .i64 s, .string d] 76)).cell (i := s) (by rw [List.length_map, l1]; exact hs0)
      rw [List.getElem?_eq_getElem (by rw [List.length_map, l1]; exact hs0)] at fc
      have ff := (hD.firm.alloc (.cells #[.int .i64 s, .string d] 76)).fz s
      have hD2 : Dk ((wr.setCell ⟨I.f, s, none⟩ (.string d)).alloc (.cells #[.int .i64 s, .string d] 76)).drew B I (S.burnt.firmed (apply S.firm (S.pend.take (k + 1)))) := by
        rw [hst]
        exact (hD.setFirm s d (by rw [l1]; exact hs0) hs64).kept (((Below.refl _ _).alloc (Nat.le_refl _) _).drew)
      have hO2 := ((hO.set (q := ⟨I.f, s, none⟩) (fun _ => .inr (.inl rfl)) (.string d)).alloc (.cells #[.int .i64 s, .string d] 76)).drew
      have HD := Lib.hid hD2; have HO := Lib.hid hO2
      clear hD hO hD2 hO2 hst q0 q1 e2 hs1
      go_wp2_with fail
      go_region
      go_wp2
      go_roundw
      case rel => exact ⟨k + 1, HLT.out, by have := HLT.out; go_num, HD.out, HO.out⟩
      case measure => have := HLT.out; simp [intOf]; omega
    · obtain rfl : k = S.pend.length := by omega
      rw [List.take_length] at hD
      obtain ⟨c0, c1, c2, c3, c4⟩ := hD.cells
      have f2 := hD.box.fz 2
      have hD2 : Dk (wr.setCell ⟨I.g, 2, none⟩ (.slice none 0 0)) B (I.with (.slice none 0 0)) S.synced := hD.setNil
      have hO2 := hO.set (q := ⟨I.g, 2, none⟩) (fun _ => .inl rfl) (.slice none 0 0)
      have HD := Lib.hid hD2; have HO := Lib.hid hO2
      clear hD hO hD2 hO2
      go_wp2
      go_ret
      exact ⟨rfl, HD.out, HO.out⟩
end Go.Proofs.Ytplcddcdhnjfeaa
