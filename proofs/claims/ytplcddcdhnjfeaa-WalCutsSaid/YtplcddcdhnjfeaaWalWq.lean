/- Append, Flush, Open of a log of records over its device: what they answer and leave. -/
import Derived.Test.YtplcddcdhnjfeaaWalThyA
import Derived.Test.YtplcddcdhnjfeaaWalEnt
set_option linter.unusedVariables false
set_option linter.unusedSimpArgs false
namespace Go.Proofs.Ytplcddcdhnjfeaa
open Go.RowKit

section
variable {N first n start : Nat} {pre : ByteArray} {L : Lg} {S : Dsk} {all : List ByteArray} {f : Nat} {w : World} {B : Nat} {I : Wd}
theorem append_wq (hW : Wl w B I L S) (hQ : Wq N first n start pre L S all f) (rec : ByteArray) (hB : B ≤ w.heap.size) (hs : rec.size ≤ maxLen) (hb : L.fin ≤ 1152921504606000000) :
    Calls Try.prog 12 #[I.ptr, .string rec] w fun e w' => ∃ dv pv, AppOut w w' I ∧
      ((∃ er, e = .returned (.tuple #[.int .i64 0, .int .i64 er]) ∧ er ≠ 0 ∧ (er == 0) = false ∧ Wl w' B ⟨I.g, I.d, dv, pv⟩ L S) ∨
       (e = .returned (.tuple #[.int .i64 L.fin, .int .i64 0]) ∧ 1 ≤ rec.size ∧ rec.size ≤ 65535 ∧ rec.size + 2 ≤ L.room ∧ (L.more rec).fin = L.fin + (2 + rec.size) ∧ Wl w' B ⟨I.g, I.d, dv, pv⟩ (L.more rec) S ∧ Wq N first n start pre (L.more rec) S (all ++ [rec]) f)) := by
  refine (append_any hW rec hB hs hb).mono ?_
  rintro e w' ⟨rfl, dv, pv, hw, ho, -⟩
  by_cases hA : rec.size = 0 ∨ 65535 < rec.size ∨ L.room < rec.size + 2
  · obtain ⟨er, hE, hne⟩ : ∃ er, L.append rec = (L, 0, er) ∧ er ≠ 0 := by
      unfold Lg.append
      by_cases h0 : rec.size = 0
      · exact ⟨1, by rw [if_pos h0], by decide⟩
      by_cases h1 : 65535 < rec.size
      · exact ⟨2, by rw [if_neg h0, if_pos h1], by decide⟩
      · exact ⟨70, by rw [if_neg h0, if_neg h1, if_pos (by omega)], by decide⟩
    rw [hE] at hw ⊢
    exact ⟨dv, pv, ho, .inl ⟨er, rfl, hne, by simp [hne], hw⟩⟩
  · have h0 : ¬ rec.size = 0 := fun h => hA (.inl h)
    have h1 : ¬ 65535 < rec.size := fun h => hA (.inr (.inl h))
    have h2 : ¬ L.room < rec.size + 2 := fun h => hA (.inr (.inr h))
    have hE : L.append rec = (L.more rec, L.fin, 0) := by unfold Lg.append; rw [if_neg h0, if_neg h1, if_neg h2]
    rw [hE] at hw ⊢
    exact ⟨dv, pv, ho, .inr ⟨rfl, by omega, by omega, by omega, rfl, hw, hQ.more rec (by omega) (by omega) (by omega) hb⟩⟩
theorem flush_wq (hW : Wl w B I L S) (hQ : Wq N first n start pre L S all f) (at_ : Int) (hB : B ≤ w.heap.size) :
    Calls Try.prog 13 #[I.ptr, .int .i64 at_] w fun e w' => ∃ p' L' S' er, e = .returned (.int .i64 er) ∧ Wl w' B ⟨I.g, I.d.with p', I.dv, I.pv⟩ L' S' ∧ Wq N first n start pre L' S' all f ∧
      (er = 0 → ((L.fin : Nat) : Int) ≤ at_ → Wq N first n start pre L' S' all all.length ∧ L'.firm = L'.fin) ∧
      (er = 0 → (∀ g, g < all.length → ((start + total (all.take g) : Nat) : Int) ≤ at_) → Wq N first n start pre L' S' all all.length ∧ L'.firm = L'.fin) ∧ (Run S → er = 0 ∧ Run S') ∧ L'.fin = L.fin ∧ Out w w' (I.df B w) := by
  refine (flush_any hW at_ hB (by have := hQ.qt.few; omega)).mono ?_
  rintro e w' ⟨rfl, p', hw, ho⟩
  obtain ⟨-, ⟨-, -, -, -, q6, -⟩, -⟩ := flush_qt (N := N) hQ.ok hQ.qt (by rw [hQ.nf, hQ.nn]; exact hQ.hN) at_
  obtain ⟨a, b⟩ := hQ.flushed at_ hw.ok
  exact ⟨p', _, _, _, rfl, hw, a, fun h0 ha => by rw [q6]; exact hQ.flush_all at_ hw.ok ha h0, fun h0 ha => by rw [q6]; exact b h0 ha, fun r => flush_run hQ.ok (by rw [hQ.nf, hQ.nn, hQ.qt.len]; exact hQ.hN) r at_, q6, ho⟩
theorem open_wq {I : Ids} {C : Dsk} (hD : Dk w B I C) (hQ : Wq N first n start pre L S all f) (m : Nat) (kb : Nat → Bool) (hC : C = S.crash m kb) (h1 : 54 ≤ start) (h2 : start ≤ 1099511627776) (hB : B ≤ w.heap.size) :
    Calls Try.prog 15 #[I.ptr, .int .i64 first, .int .i64 n, .int .i64 start] w fun e w' => ∃ k p' g ea ec dv pv L' S', f ≤ k ∧ k ≤ all.length ∧ e = .returned (.tuple #[.pointer (some ⟨g, 0, none⟩), .slice ea k ec, .int .i64 0]) ∧
      w'.ownsRow B 40 2 (.slice ea k ec) k (enL start (all.take k)) ∧ Wl w' B ⟨g, I.with p', dv, pv⟩ L' S' ∧ Wq N first n start pre L' S' (all.take k) k ∧ Run S' ∧ Below B w w' := by
  obtain ⟨k, k1, k2, k3, k4, k5, k6, k7, -, -, k8⟩ := hQ.crashed h1 h2 m kb (-1) C (by rw [hC]; rfl)
  obtain ⟨k9, ka, kc⟩ := k8 rfl
  have n1 : 128 ≤ n := by rw [← hQ.nn]; exact hQ.ok.n1
  have n2 : n ≤ 4096 := by rw [← hQ.nn]; exact hQ.ok.n2
  refine (open_good hD first n start k7 n1 n2 (by rw [k5]; exact hQ.hN) h1 h2 hB (by rw [k6]; exact Nat.zero_le _)).mono ?_
  rintro e w' ⟨p', hb, hcase⟩
  rcases hcase with ⟨-, g, ev, dv, pv, rfl, hO, hW⟩ | ⟨h, -⟩
  · have lk : (all.take k).length = k := by rw [List.length_take]; omega
    rw [k3, lk] at hO
    obtain ⟨ea, ec, rfl⟩ := tx_slice hO
    exact ⟨k, p', g, ea, ec, dv, pv, _, _, k1, k2, rfl, hO, hW, kc, ka, hb⟩
  · exact absurd k9 h
/-- A list of entries and its head, held against each other. -/
theorem prefix_own {w : World} {B B' : Nat} {a b : Option Addr} {c d : Nat} {all : List ByteArray} {k : Nat} (start : Nat) (hA : w.ownsRow B 40 2 (.slice a all.length c) all.length (enL start all)) (hO : w.ownsRow B' 40 2 (.slice b k d) k (enL start (all.take k))) (hk : k ≤ all.length) (hm : all.length ≤ 9223372036854775807) (least : Nat) (hl : least ≤ k) :
    Calls Try.prog 16 #[.slice a all.length c, .slice b k d, .int .i64 (least : Int)] w fun e w' => e = .returned (.bool true) ∧ Below w.heap.size w w' := by
  have lk : (all.take k).length = k := by rw [List.length_take]; omega
  have V := Ev.of_owns hA
  have U := Ev.of_owns (l := all.take k) (by rw [lk]; exact hO)
  rw [lk] at U
  exact prefix_any w _ _ all.length k _ _ _ _ V U hm _ (by omega) hk (fun i hi => ⟨(plAt_take all start k i hi).symm, (rcAt_take all k i hi).symm⟩)
end
end Go.Proofs.Ytplcddcdhnjfeaa
