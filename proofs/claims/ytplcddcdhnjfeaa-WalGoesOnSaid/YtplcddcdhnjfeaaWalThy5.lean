/- What Open finds of a ring that holds a stream, and what it leaves there: plain. -/
import Derived.Test.YtplcddcdhnjfeaaWalThy4
set_option linter.unusedVariables false
set_option linter.unusedSimpArgs false
namespace Go.Proofs.Ytplcddcdhnjfeaa
open Go.RowKit

theorem enc_take (rs : List ByteArray) (k : Nat) : (enc rs).extract 0 (total (rs.take k)) = enc (rs.take k) := by
  conv => lhs; rw [← List.take_append_drop k rs, enc_app]
  rw [List.take_append_drop, ← enc_size, Oct.take_app]
theorem pad_none (d : ByteArray) (a : Nat) (h : a ≤ d.size) : padTo d a = d := by
  unfold padTo
  rw [Nat.sub_eq_zero_of_le h]
  apply ByteArray.ext
  rw [ByteArray.data_append]
  show _ ++ (Fr.zs 0).data = _
  simp [Fr.zs]
theorem total_take (rs : List ByteArray) (k : Nat) : total (rs.take k) ≤ total rs := by
  have := total_app (rs.take k) (rs.drop k)
  rw [List.take_append_drop] at this
  omega
/-- Open finds the first records, at least what is firm. -/
theorem open_rg {first n start : Nat} {S : Dsk} {pre : ByteArray} {rs : List ByteArray} {f : Nat} (hp : pre.size = start % 54) (hr : ∀ r ∈ rs, 1 ≤ r.size ∧ r.size < 65536) (hf : f ≤ rs.length)
    (a : Dal (Rg first n (start / 54) (pre ++ enc rs) (pre.size + total (rs.take f))) S) (hl : first + n ≤ S.firm.length) (h1 : 1 ≤ n) (hb : start / 54 + n ≤ 1152921504606846976) (hn : pre.size + total (rs.take f) ≤ 54 * n) :
    ∃ k, f ≤ k ∧ k ≤ rs.length ∧ openRecs (Lg.read first n start S) = rs.take k ∧ (opened (Lg.read first n start S)).data = pre ++ enc (rs.take k) := by
  have hT : (pre ++ enc rs).size = pre.size + total rs := by rw [ByteArray.size_append, enc_size]
  have htk := total_take rs f
  obtain ⟨t, t1, t2, t3⟩ := read_rg a hl h1 hb (by rw [hT]; omega) hn
  have hz : ((pre ++ enc rs).extract 0 t).size = t := by rw [ByteArray.size_extract]; omega
  have hpad := pad_none ((pre ++ enc rs).extract 0 t) pre.size (by omega)
  obtain ⟨k, k1, k2, k3, k4⟩ := recs_behind pre rs t (t + 1) hr (by omega) (by omega)
  rw [hpad, hz] at k2
  have hs : (Lg.read first n start S).start = start := rfl
  have eo : openRecs (Lg.read first n start S) = rs.take k := by
    show recsFrom ((padTo (Lg.read first n start S).data ((Lg.read first n start S).start % 54)).size + 1) (some ((padTo (Lg.read first n start S).data ((Lg.read first n start S).start % 54)).extract ((Lg.read first n start S).start % 54) (padTo (Lg.read first n start S).data ((Lg.read first n start S).start % 54)).size)) = _
    rw [hs, t3, ← hp, hpad, hz]
    exact k2
  refine ⟨k, k4 f hf t2, k1, eo, ?_⟩
  show (padTo (Lg.read first n start S).data ((Lg.read first n start S).start % 54)).extract 0 ((Lg.read first n start S).start + total (openRecs (Lg.read first n start S)) - flr (Lg.read first n start S).start) = _
  have hfl : start - flr start = start % 54 ∧ flr start ≤ start := by unfold flr; omega
  rw [eo, hs, t3, ← hp, hpad, show start + total (rs.take k) - flr start = pre.size + total (rs.take k) by omega, ext_ext _ _ _ _ (by omega), ext_long _ _ _ (by omega), Nat.add_sub_cancel_left, enc_take]
theorem at_place (L : Lg) (i : Nat) (hi : i < L.n) : (L.start / 54 + (i + L.n - L.start / 54 % L.n) % L.n) % L.n = i := by
  generalize L.start / 54 = k
  have h1 : k % L.n < L.n := Nat.mod_lt _ (by omega)
  have h2 := Nat.div_add_mod k L.n
  rw [Nat.add_mod_mod, show k + (i + L.n - k % L.n) = i + L.n * (k / L.n + 1) by rw [Nat.mul_add, Nat.mul_one]; omega, Nat.add_mul_mod_self_left, Nat.mod_eq_of_lt hi]
theorem want_rg {L : Lg} (h : L.ok) (i : Nat) (hi : i < L.n) : Rg L.first L.n (L.start / 54) L.data L.data.size (L.first + i) (L.want i) := by
  have hp := at_place L i hi
  have hlt : (i + L.n - L.start / 54 % L.n) % L.n < L.n := Nat.mod_lt _ (by omega)
  have ea : L.at_ i = L.start / 54 + (i + L.n - L.start / 54 % L.n) % L.n := rfl
  have a1 := h.sf; have a2 := h.fe; have a4 := h.sz
  rw [flr_mul] at a4
  unfold Lg.want
  rw [ea]
  generalize (i + L.n - L.start / 54 % L.n) % L.n = k at *
  split
  · have := sec_rg h k hlt (by omega)
    rw [hp] at this
    exact this
  · refine rg_zs fun j hj he => ?_
    have : j = k := mod_inj (L.start / 54) j k L.n hj hlt (by omega)
    subst this
    omega
/-- Open's wipe: what was firm stays so; made whole, the ring holds just what was found. -/
theorem wipe_rg {L : Lg} {S : Dsk} {T : ByteArray} {F t : Nat} (h : L.ok) (a : Dal (Rg L.first L.n (L.start / 54) T F) S) (hT : L.data = T.extract 0 t) (hF : F ≤ L.data.size) :
    Dal (Rg L.first L.n (L.start / 54) T F) (L.wipeFrom L.n 0 S).1 ∧ ((L.wipeFrom L.n 0 S).2 = 0 → Dal (Rg L.first L.n (L.start / 54) L.data L.data.size) (L.wipeFrom L.n 0 S).1) := by
  have w : ∀ j, 0 ≤ j → j < 0 + L.n → Rg L.first L.n (L.start / 54) L.data L.data.size (L.first + j) (L.want j) := fun j _ hj => want_rg h j (by omega)
  have w' : ∀ j, 0 ≤ j → j < 0 + L.n → Rg L.first L.n (L.start / 54) T F (L.first + j) (L.want j) := fun j h0 hj => by
    have := w j h0 hj
    rw [hT] at this hF
    exact rg_pre this hF
  refine ⟨L.wipe_al L.n 0 S a w', fun h0 => L.wipe_now L.n 0 S a w' w (fun j hj => ?_) h0⟩
  by_cases hx : L.first ≤ j ∧ j < L.first + L.n
  · exact .inr ⟨by omega, by omega⟩
  · refine .inl fun i hi he => ?_
    have : (L.start / 54 + i) % L.n < L.n := Nat.mod_lt _ (by omega)
    omega
/-- A ring that was created. -/
theorem start_rg (N first n K : Nat) (T : ByteArray) : Dal (Rg first n K T 0) (.start (blanks N)) := Dal.start fun j hj => by
  have e : (blanks N).getD j ⟨#[]⟩ = Fr.zs 64 := by
    have hj' : j < N := by simpa [blanks] using hj
    simp [blanks, List.getD_eq_getElem?_getD, List.getElem?_replicate, hj']
  rw [e]; exact rg_blank
/-- A record more: the ring is as it was. -/
theorem more_rg {first n K F : Nat} {T : ByteArray} {S : Dsk} (a : Dal (Rg first n K T F) S) (x : ByteArray) : Dal (Rg first n K (T ++ x) F) S := a.mono fun j v h => rg_more h x
theorem burn_al {Q : Nat → ByteArray → Prop} {S : Dsk} (a : Dal Q S) (f : Int) (d : Bool) : Dal Q { S with fuel := f, down := d } := ⟨a.firm, a.pend, a.lv⟩
end Go.Proofs.Ytplcddcdhnjfeaa
