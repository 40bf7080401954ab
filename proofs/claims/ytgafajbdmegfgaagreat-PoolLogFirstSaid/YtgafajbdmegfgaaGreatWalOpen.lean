/- The walk of Open. -/
import Derived.Test.YtgafajbdmegfgaaGreatWalRecs
import Derived.Test.YtgafajbdmegfgaaGreatWalWipe
import Derived.Test.YtgafajbdmegfgaaGreatWalMake
set_option linter.unusedVariables false
set_option linter.unusedSimpArgs false
namespace Go.Proofs.YtgafajbdmegfgaaGreat
open Go.RowKit

theorem ld_size (get : Nat → ByteArray) (k : Nat) : ∀ (m i : Nat) (d : ByteArray), (ldFrom get k m i d).size ≤ d.size + 54 * m
  | 0, i, d => Nat.le_add_right _ _
  | m + 1, i, d => by
    show (if secId (get (k + i)) ≠ k + i + 1 ∨ 54 < secN (get (k + i)) then d else if secN (get (k + i)) < 54 then d ++ secB (get (k + i)) else ldFrom get k m (i + 1) (d ++ secB (get (k + i)))).size ≤ _
    by_cases h : secId (get (k + i)) ≠ k + i + 1 ∨ 54 < secN (get (k + i))
    · rw [if_pos h]; omega
    · rw [if_neg h]
      have b := secB_len (get (k + i))
      have c : secN (get (k + i)) ≤ 54 := by omega
      by_cases h2 : secN (get (k + i)) < 54
      · rw [if_pos h2, ByteArray.size_append]; omega
      · rw [if_neg h2]
        have := ld_size get k m (i + 1) (d ++ secB (get (k + i)))
        rw [ByteArray.size_append] at this
        omega
theorem plc_ge : ∀ (l : List ByteArray) (a p : Nat), p ∈ plcFrom a l → a ≤ p ∧ p < a + total l
  | [], a, p, h => by cases h
  | x :: l, a, p, h => by
    have e : total (x :: l) = (2 + x.size) + total l := by simp [total]
    rcases List.mem_cons.1 h with rfl | h
    · omega
    · have := plc_ge l (a + (2 + x.size)) p h
      omega
theorem plc_asc : ∀ (l : List ByteArray) (a : Nat), (plcFrom a l).Pairwise (· < ·)
  | [], a => .nil
  | x :: l, a => .cons (fun p hp => by have := plc_ge l (a + (2 + x.size)) p hp; omega) (plc_asc l _)
theorem len_total : ∀ l : List ByteArray, l.length ≤ total l
  | [] => Nat.zero_le _
  | x :: l => by
    have e : total (x :: l) = (2 + x.size) + total l := by simp [total]
    have := len_total l
    rw [e, List.length_cons]; omega
theorem pad_size (d : ByteArray) (a : Nat) : (padTo d a).size = max d.size a := by unfold padTo; rw [ByteArray.size_append, Fr.zs_size]; omega
theorem opened_ok {L : Lg} (n1 : 128 ≤ L.n) (n2 : L.n ≤ 4096) (f1 : L.first ≤ 16384) (s0 : 54 ≤ L.start) (s1 : L.start ≤ 1152921504606) (hd : L.data.size ≤ 54 * L.n) : (opened L).ok := by
  have eo : opened L = { L with fin := L.start + total (openRecs L), firm := L.start + total (openRecs L), data := (padTo L.data (L.start % 54)).extract 0 (L.start + total (openRecs L) - flr L.start), places := plcFrom L.start (openRecs L) } := rfl
  have er : openRecs L = recsFrom ((padTo L.data (L.start % 54)).size + 1) (some ((padTo L.data (L.start % 54)).extract (L.start % 54) (padTo L.data (L.start % 54)).size)) := rfl
  have hD := pad_size L.data (L.start % 54)
  have lt := len_total (openRecs L)
  have ge := plc_ge (openRecs L) L.start
  have asc := plc_asc (openRecs L) L.start
  have pl := plc_length (openRecs L) L.start
  have ht : total (openRecs L) ≤ (padTo L.data (L.start % 54)).size - L.start % 54 := by
    rw [er]
    refine Nat.le_trans (total_le _ _) ?_
    rw [Option.getD_some, ByteArray.size_extract]
    omega
  rw [eo]
  clear eo er
  generalize padTo L.data (L.start % 54) = D at *
  generalize plcFrom L.start (openRecs L) = P at *
  generalize openRecs L = rs at *
  have fl : L.start - flr L.start = L.start % 54 ∧ flr L.start ≤ L.start := by unfold flr; omega
  have hm : L.start % 54 < 54 := Nat.mod_lt _ (by omega)
  obtain ⟨fs, hfs⟩ : ∃ fs, flr L.start = fs := ⟨_, rfl⟩
  rw [hfs] at fl ⊢
  have es : (D.extract 0 (L.start + total rs - fs)).size = L.start + total rs - fs := by rw [ByteArray.size_extract]; omega
  generalize D.extract 0 (L.start + total rs - fs) = E at *
  exact { n1 := n1, n2 := n2, f1 := f1, s0 := s0, sf := (by show L.start ≤ L.start + total rs; omega), fe := Nat.le_refl _, big := (by show L.start + total rs ≤ 1152921504606846976; omega), sz := (by show E.size = L.start + total rs - flr L.start; rw [hfs]; exact es), rm := (by show L.start + total rs - flr L.start ≤ 54 * L.n; rw [hfs]; omega), few := (by show P.length ≤ E.size; rw [es, pl]; omega), asc := asc, hi := ge }
def Lg.bare (first n start : Nat) : Lg := ⟨first, n, start, 0, 0, ⟨#[]⟩, []⟩
/-- The log as it is read off the device. -/
def Lg.read (first n start : Nat) (S : Dsk) : Lg := { Lg.bare first n start with data := ldFrom ((Lg.bare first n start).get S) (start / 54) n 0 ⟨#[]⟩ }
def OpenPost (w : World) (B : Nat) (I : Ids) (start : Nat) (rs : List ByteArray) (L : Lg) (P : Dsk × Int) (e : Ending) (w' : World) : Prop :=
  ∃ p', Below B w w' ∧ ((P.2 = 0 ∧ ∃ g ev dv pv, e = .returned (.tuple #[.pointer (some ⟨g, 0, none⟩), ev, .int .i64 0]) ∧ w'.ownsRow B 61 2 ev rs.length (enL start rs) ∧ Wl w' B ⟨g, I.with p', dv, pv⟩ L P.1) ∨
    (P.2 ≠ 0 ∧ e = .returned (.tuple #[.pointer none, .slice none 0 0, .int .i64 P.2]) ∧ Dk w' B (I.with p') P.1))

set_option maxRecDepth 100000 in
set_option maxHeartbeats 4000000 in
theorem open_good {w : World} {B : Nat} {I : Ids} {S : Dsk} (h : Dk w B I S) (first n start : Nat) (hd : S.down = false) (n1 : 128 ≤ n) (n2 : n ≤ 4096) (hf : first + n ≤ S.firm.length) (s0 : 54 ≤ start) (s1 : start ≤ 1099511627776) (hB : B ≤ w.heap.size) (hp : S.pend.length ≤ 4398046511104) :
    Calls Tryz.prog 15 #[I.ptr, .int .i64 first, .int .i64 n, .int .i64 start] w (OpenPost w B I start (openRecs (Lg.read first n start S)) (opened (Lg.read first n start S)) ((opened (Lg.read first n start S)).wipeFrom n 0 S)) := by
  have CR := Lib.hid (isRing_good h first n n1 n2 hf)
  have hm := h.ok.most
  have H := Lib.hid h; have HB := Lib.hid hB
  have OK := Lib.hid (opened_ok (L := Lg.read first n start S) n1 n2 (by show first ≤ 16384; omega) s0 (by show start ≤ 1152921504606; omega) (by
    have := ld_size ((Lg.bare first n start).get S) (start / 54) n 0 ⟨#[]⟩
    show (ldFrom ((Lg.bare first n start).get S) (start / 54) n 0 ⟨#[]⟩).size ≤ 54 * n
    have z : (⟨#[]⟩ : ByteArray).size = 0 := rfl
    omega))
  have DS := Lib.hid (show (Lg.read first n start S).data.size ≤ 300000 from by
    have := ld_size ((Lg.bare first n start).get S) (start / 54) n 0 ⟨#[]⟩
    show (ldFrom ((Lg.bare first n start).get S) (start / 54) n 0 ⟨#[]⟩).size ≤ 300000
    have z : (⟨#[]⟩ : ByteArray).size = 0 := rfl
    omega)
  have LDD := Lib.hid (fun (w : World) (g : Nat) (hW : Wm w B ⟨g, I, .slice none 0 0, .slice none 0 0⟩ (Lg.bare first n start) S) (hB : B ≤ w.heap.size) => show Calls Tryz.prog 36 #[Wd.ptr ⟨g, I, .slice none 0 0, .slice none 0 0⟩] w fun e w' => e = .returned (.int .i64 0) ∧ ∃ dv, Wm w' B ⟨g, I, dv, .slice none 0 0⟩ (Lg.read first n start S) S ∧ Below B w w' from load_any hW (by show 1 ≤ n; omega) n2 hf (by show start ≤ _; omega) hd rfl hB)
  have RDD := Lib.hid (fun (w : World) (g : Nat) (dv : Value) (hW : Wm w B ⟨g, I, dv, .slice none 0 0⟩ (Lg.read first n start S) S) (hB : B ≤ w.heap.size) => show Calls Tryz.prog 37 #[Wd.ptr ⟨g, I, dv, .slice none 0 0⟩] w fun e w' => ∃ ev dv pv, e = .returned ev ∧ w'.ownsRow B 61 2 ev (openRecs (Lg.read first n start S)).length (enL start (openRecs (Lg.read first n start S))) ∧ Wm w' B ⟨g, I, dv, pv⟩ (opened (Lg.read first n start S)) S ∧ Below B w w' from records_any hW rfl DS.out (by show start ≤ _; omega) hB)
  have WDD := Lib.hid (fun (w : World) (g : Nat) (dv pv : Value) (hW : Wl w B ⟨g, I, dv, pv⟩ (opened (Lg.read first n start S)) S) (hB : B ≤ w.heap.size) => show Calls Tryz.prog 38 #[Wd.ptr ⟨g, I, dv, pv⟩] w fun e w' => e = .returned (.int .i64 ((opened (Lg.read first n start S)).wipeFrom n 0 S).2) ∧ ∃ p', Wl w' B ⟨g, I.with p', dv, pv⟩ (opened (Lg.read first n start S)) ((opened (Lg.read first n start S)).wipeFrom n 0 S).1 ∧ Below B w w' ∧ Out w w' (Wd.df ⟨g, I, dv, pv⟩ B w) from wipe_any hW hd (by show first + n ≤ _; exact hf) hB hp)
  generalize (opened (Lg.read first n start S)).wipeFrom n 0 S = P at *
  generalize openRecs (Lg.read first n start S) = rs at *
  generalize opened (Lg.read first n start S) = L2 at *
  clear DS
  generalize Lg.read first n start S = L1 at *
  obtain ⟨S2, e2⟩ := P
  dsimp only at WDD ⊢
  have hs0 : ¬ (start : Int) < 54 := by omega
  have hs1 : ¬ (1099511627776 : Int) < (start : Int) := by omega
  unfold Ids.ptr Wd.ptr at *
  clear h hd n1 n2 hf s0 s1 hB hp hm
  go_enter Tryz.func15, Tryz.ntmps15
  go_wp2_with fail
  refine CR.out.mono ?_
  rintro e w1 ⟨rfl, hw⟩
  subst w1
  have W1 := Lib.hid (show Wm (w.alloc (.cells #[.pointer (some ⟨I.g, 0, none⟩), .int .i64 first, .int .i64 n, .int .i64 start, .int .i64 0, .int .i64 0, .slice none 0 0, .slice none 0 0] 71)) B ⟨w.heap.size, I, .slice none 0 0, .slice none 0 0⟩ (Lg.bare first n start) S from
    ⟨Bk.new w _ _, HB.out, H.out.kept ((Below.refl _ _).alloc (Nat.le_refl _) _), World.ownsRow_nil _ _ _ _, World.ownsRow_nil _ _ _ _⟩)
  have B1 := Lib.hid ((Below.refl B w).alloc HB.out (.cells #[.pointer (some ⟨I.g, 0, none⟩), .int .i64 first, .int .i64 n, .int .i64 start, .int .i64 0, .int .i64 0, .slice none 0 0, .slice none 0 0] 71))
  clear CR H
  go_wp2_with fail
  generalize w.alloc (.cells #[.pointer (some ⟨I.g, 0, none⟩), .int .i64 first, .int .i64 n, .int .i64 start, .int .i64 0, .int .i64 0, .slice none 0 0, .slice none 0 0] 71) = w1 at *
  generalize w.heap.size = g at *
  have HB1 := Lib.hid (show B ≤ w1.heap.size from Nat.le_trans W1.out.bg (Nat.le_of_lt W1.out.box.lt))
  refine (LDD.out w1 g W1.out HB1.out).mono ?_
  rintro e w2 ⟨rfl, dv, hw, hb⟩
  have W2 := Lib.hid (show Wm w2 B ⟨g, I, dv, .slice none 0 0⟩ L1 S from hw)
  have B2 := Lib.hid (B1.out.trans hb)
  have HB2 := Lib.hid (Nat.le_trans HB1.out hb.size)
  clear hw hb LDD W1 B1 HB1
  have RD2 := Lib.hid (RDD.out w2 g dv W2.out HB2.out)
  clear RDD
  go_wp2_with fail
  refine RD2.out.mono ?_
  rintro e w3 ⟨ev, dv3, pv3, rfl, hev, hw, hb⟩
  have W3 := Lib.hid (show Wl w3 B ⟨g, I, dv3, pv3⟩ L2 S from Wm.fine hw OK.out)
  have E3 := Lib.hid hev
  have B3 := Lib.hid (B2.out.trans hb)
  have HB3 := Lib.hid (Nat.le_trans HB2.out hb.size)
  clear hw hb hev RD2 W2 B2 HB2
  have WD3 := Lib.hid (WDD.out w3 g dv3 pv3 W3.out HB3.out)
  clear WDD
  have WD4 := WD3
  have E4 := E3
  obtain ⟨ea, ec, hee⟩ := tx_slice E4.out
  subst hee
  clear E3 OK WD3
  go_wp2_with fail
  refine WD4.out.mono ?_
  rintro e w4 ⟨rfl, p', hw, hb, ho⟩
  have W4 := Lib.hid hw
  have B4 := Lib.hid (B3.out.trans hb)
  have E5 := Lib.hid (owns_of_block E4.out (w' := w4) fun k hk => by
    obtain ⟨_, lt, cur, hc⟩ := owns_block E4.out hk
    refine ho.block k lt ?_
    rintro (rfl | rfl | rfl | rfl | ⟨_, cur2, hc2⟩)
    · exact Bk.ne_ hc W3.out.box (by decide) rfl
    · exact Bk.ne_ hc W3.out.dsk.box (by decide) rfl
    · exact W3.out.dsk.firm.ne_bk hc (by decide) rfl
    · exact W3.out.dsk.now.ne_bk hc (by decide) rfl
    · exact Bk.ne_ hc hc2 (by decide) rfl)
  clear hw hb ho WD4 W3 E4 B3
  by_cases he : e2 = 0
  · subst he
    go_wp2_with fail
    exact bodyPost_ret (v := .tuple #[.pointer (some ⟨g, 0, none⟩), .slice ea rs.length ec, .int .i64 0]) (by simp [results, Tryz.results15, go_sem]) rfl (by unfold OpenPost; exact ⟨p', B4.out, .inl ⟨rfl, g, _, dv3, pv3, rfl, E5.out, W4.out⟩⟩)
  · have hne : (e2 != 0) = true := by simp [he]
    have hne' : (e2 == 0) = false := by simp [he]
    have HE := Lib.hid he
    clear he
    go_wp2_with fail
    exact bodyPost_ret (v := .tuple #[.pointer none, .slice none 0 0, .int .i64 e2]) (by simp [results, Tryz.results15, go_sem]) rfl (by unfold OpenPost; exact ⟨p', B4.out, .inr ⟨HE.out, rfl, W4.out.dsk⟩⟩)
end Go.Proofs.YtgafajbdmegfgaaGreat
