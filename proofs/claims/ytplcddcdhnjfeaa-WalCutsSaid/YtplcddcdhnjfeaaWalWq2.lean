/- Cut and Read of a log of records over its device; Append once more, telling where its places lie. -/
import Derived.Test.YtplcddcdhnjfeaaWalWq
import Derived.Test.YtplcddcdhnjfeaaWalThyA
import Derived.Test.YtplcddcdhnjfeaaWalCut
import Derived.Test.YtplcddcdhnjfeaaWalGet
set_option linter.unusedVariables false
set_option linter.unusedSimpArgs false
namespace Go.Proofs.Ytplcddcdhnjfeaa
open Go.RowKit

theorem plc_at : ∀ (l : List ByteArray) (a g : Nat) (h : g < (plcFrom a l).length), (plcFrom a l)[g] = a + total (l.take g)
  | [], a, g, h => absurd h (Nat.not_lt_zero _)
  | x :: l, a, 0, h => rfl
  | x :: l, a, g + 1, h => by
    have := plc_at l (a + (2 + x.size)) g (by simpa [plcFrom] using h)
    show (plcFrom (a + (2 + x.size)) l)[g]'(by simpa [plcFrom] using h) = a + total (x :: l.take g)
    rw [this, total_cons, Nat.add_assoc]
theorem enc_rec (l : List ByteArray) (g : Nat) (hg : g < l.length) : (enc l).extract (total (l.take g) + 2) (total (l.take (g + 1))) = l[g] := by
  have e : enc l = enc (l.take g) ++ (Oct.str (l[g]).size 2 ++ (l[g] ++ enc (l.drop (g + 1)))) := by
    conv => lhs; rw [← List.take_append_drop g l, enc_app, List.drop_eq_getElem_cons hg]
    rw [show (l[g] :: l.drop (g + 1)) = [l[g]] ++ l.drop (g + 1) from rfl, enc_app, enc_one, ByteArray.append_assoc]
  have ht : total (l.take (g + 1)) = total (l.take g) + (2 + (l[g]).size) := by
    rw [List.take_succ_eq_append_getElem hg, total_app]
    congr 1
  have es := enc_size (l.take g)
  apply ByteArray.ext
  apply Array.toList_inj.1
  rw [e, ht]
  have h1 : (enc (l.take g)).data.toList.length = total (l.take g) := es
  have h2 : (Oct.str (l[g]).size 2).data.toList.length = 2 := (show (Oct.str (l[g]).size 2).size = 2 from Oct.str_size _ _)
  have h3 : (l[g]).data.toList.length = (l[g]).size := rfl
  simp only [ByteArray.data_extract, ByteArray.data_append, Array.toList_extract, Array.toList_append, List.extract_eq_take_drop]
  rw [List.drop_append, List.drop_of_length_le (by omega), List.nil_append, show total (l.take g) + 2 - (enc (l.take g)).data.toList.length = 2 by omega, List.drop_append, List.drop_of_length_le (by omega), List.nil_append, h2, Nat.sub_self, List.drop_zero, show total (l.take g) + (2 + (l[g]).size) - (total (l.take g) + 2) = (l[g]).data.toList.length by omega, List.take_left']
  rfl
section
variable {N first n start : Nat} {pre : ByteArray} {L : Lg} {S : Dsk} {all : List ByteArray} {f : Nat} {w : World} {B : Nat} {I : Wd}
theorem cut_wq (hW : Wl w B I L S) (hQ : Wq N first n start pre L S all f) (g : Nat) (hg : g ≤ all.length) (at_ : Nat) (ha : at_ = start + total (all.take g)) (hp : at_ ≤ L.firm) (hB : B ≤ w.heap.size) :
    Calls Try.prog 20 #[I.ptr, .int .i64 at_] w fun e w' => e = .returned (.int .i64 0) ∧ ∃ dv pv pre', Wl w' B ⟨I.g, I.d, dv, pv⟩ (L.cut at_) S ∧ Wq N first n at_ pre' (L.cut at_) S (all.drop g) (f - g) ∧ Out w w' (fun k => k = I.g) := by
  have hs := hQ.ns
  have hf := hQ.fin
  have hm : at_ ∈ L.places ∨ at_ = L.fin := by
    rcases Nat.lt_or_ge g all.length with h | h
    · left
      rw [hQ.plc]
      have hl : g < (plcFrom start all).length := by rw [plc_length]; exact h
      rw [ha, ← plc_at all start g hl]
      exact List.getElem_mem hl
    · right
      rw [ha, hf, List.take_of_length_le h]
  obtain ⟨pre', hc⟩ := hQ.cut g hg at_ ha hp
  refine (cut_good hW at_ (by omega) hp hm hB).mono ?_
  rintro e w' ⟨rfl, dv, pv, hw, ho⟩
  exact ⟨rfl, dv, pv, pre', hw, hc, ho⟩
theorem read_wq (hW : Wl w B I L S) (hQ : Wq N first n start pre L S all f) (g : Nat) (hg : g < all.length) :
    Calls Try.prog 21 #[I.ptr, .int .i64 ((start + total (all.take g) : Nat) : Int)] w fun e w' => e = .returned (.tuple #[.string (all[g]), .int .i64 0]) ∧ Below w.heap.size w w' := by
  have hpl := hQ.plc
  have hl : (plcFrom start all).length = all.length := plc_length all start
  have hl' : L.places.length = all.length := by rw [hpl, hl]
  have hf := hQ.fin
  have hrs := hQ.rs _ (List.getElem_mem hg)
  have ht : total (all.take (g + 1)) = total (all.take g) + (2 + (all[g]).size) := by
    rw [List.take_succ_eq_append_getElem hg, total_app]
    congr 1
  have htt := total_take all (g + 1)
  have hx : L.places[g]'(by omega) = start + total (all.take g) := by simp only [hpl]; exact plc_at all start g (by omega)
  have hc : L.places.countP (· < start + total (all.take g)) = g := by rw [hpl]; exact plc_count all start g (by omega)
  have hn : start + total (all.take (g + 1)) = if h : g + 1 < L.places.length then L.places[g + 1] else L.fin := by
    split
    · simp only [hpl]; exact (plc_at all start (g + 1) (by omega)).symm
    · rw [hf, List.take_of_length_le (by omega)]
  have d := Wq.flr_ start
  have c := read_yes hW (start + total (all.take g)) g (start + total (all.take (g + 1))) (by omega) hx hc hn (by omega) (by omega)
  have ex : L.data.extract (start + total (all.take g) + 2 - flr L.start) (start + total (all.take (g + 1)) - flr L.start) = all[g] := by
    rw [hQ.data, hQ.ns, ← enc_rec all g hg]
    have hz := hQ.pz
    apply ByteArray.ext
    apply Array.toList_inj.1
    have h1 : pre.data.toList.length = start % 54 := hz
    simp only [ByteArray.data_extract, ByteArray.data_append, Array.toList_extract, Array.toList_append, List.extract_eq_take_drop]
    rw [List.drop_append, List.drop_of_length_le (by omega), List.nil_append]
    congr 1
    · omega
    · congr 1; omega
  rw [ex] at c
  exact c
theorem read_older (hW : Wl w B I L S) (hQ : Wq N first n start pre L S all f) (x : Nat) (hx : x < start) :
    Calls Try.prog 21 #[I.ptr, .int .i64 x] w fun e w' => e = .returned (.tuple #[.string ⟨#[]⟩, .int .i64 150]) ∧ Below w.heap.size w w' :=
  read_no hW x fun h => by
    rw [hQ.plc] at h
    have := plc_ge all start x h
    omega
theorem append_wq2 (hW : Wl w B I L S) (hQ : Wq N first n start pre L S all f) (rec : ByteArray) (hB : B ≤ w.heap.size) (hs : rec.size ≤ maxLen) (hb : L.fin ≤ 1152921504606000000) :
    Calls Try.prog 12 #[I.ptr, .string rec] w fun e w' => ∃ dv pv, AppOut w w' I ∧ (∀ k, pv.ownBlock = some k → I.pv.ownBlock = some k ∨ w.heap.size ≤ k) ∧
      ((∃ er, e = .returned (.tuple #[.int .i64 0, .int .i64 er]) ∧ er ≠ 0 ∧ (er == 0) = false ∧ Wl w' B ⟨I.g, I.d, dv, pv⟩ L S) ∨
       (e = .returned (.tuple #[.int .i64 L.fin, .int .i64 0]) ∧ 1 ≤ rec.size ∧ rec.size ≤ 65535 ∧ rec.size + 2 ≤ L.room ∧ (L.more rec).fin = L.fin + (2 + rec.size) ∧ Wl w' B ⟨I.g, I.d, dv, pv⟩ (L.more rec) S ∧ Wq N first n start pre (L.more rec) S (all ++ [rec]) f)) := by
  refine (append_any hW rec hB hs hb).mono ?_
  rintro e w' ⟨rfl, dv, pv, hw, ho, hloc⟩
  by_cases hA : rec.size = 0 ∨ 65535 < rec.size ∨ L.room < rec.size + 2
  · obtain ⟨er, hE, hne⟩ : ∃ er, L.append rec = (L, 0, er) ∧ er ≠ 0 := by
      unfold Lg.append
      by_cases h0 : rec.size = 0
      · exact ⟨1, by rw [if_pos h0], by decide⟩
      by_cases h1 : 65535 < rec.size
      · exact ⟨2, by rw [if_neg h0, if_pos h1], by decide⟩
      · exact ⟨70, by rw [if_neg h0, if_neg h1, if_pos (by omega)], by decide⟩
    rw [hE] at hw ⊢
    exact ⟨dv, pv, ho, hloc, .inl ⟨er, rfl, hne, by simp [hne], hw⟩⟩
  · have h0 : ¬ rec.size = 0 := fun h => hA (.inl h)
    have h1 : ¬ 65535 < rec.size := fun h => hA (.inr (.inl h))
    have h2 : ¬ L.room < rec.size + 2 := fun h => hA (.inr (.inr h))
    have hE : L.append rec = (L.more rec, L.fin, 0) := by unfold Lg.append; rw [if_neg h0, if_neg h1, if_neg h2]
    rw [hE] at hw ⊢
    exact ⟨dv, pv, ho, hloc, .inr ⟨rfl, by omega, by omega, by omega, rfl, hw, hQ.more rec (by omega) (by omega) (by omega) hb⟩⟩
end
end Go.Proofs.Ytplcddcdhnjfeaa
