/- A log that is being opened; the walk of load. -/
import Derived.Test.YtgafajbdmegfgaaGreatWalFlush
import Derived.Test.YtgafajbdmegfgaaGreatOctRd2
set_option linter.unusedVariables false
set_option linter.unusedSimpArgs false
namespace Go.Proofs.YtgafajbdmegfgaaGreat
open Go.RowKit

/-- A log in memory, whatever its fields are. -/
structure Wm (w : World) (B : Nat) (I : Wd) (L : Lg) (S : Dsk) : Prop where
  box : Bk w I.g 71 (I.box L)
  bg : B ≤ I.g
  dsk : Dk w B I.d S
  dat : w.ownsRow B 5 1 I.dv L.data.size (Lib.strCells L.data)
  plc : w.ownsRow B 3 1 I.pv L.places.length (ints L.places)
theorem Wl.raw {w : World} {B : Nat} {I : Wd} {L : Lg} {S : Dsk} (h : Wl w B I L S) : Wm w B I L S := ⟨h.box, h.bg, h.dsk, h.dat, h.plc⟩
theorem Wm.fine {w : World} {B : Nat} {I : Wd} {L : Lg} {S : Dsk} (h : Wm w B I L S) (ok : L.ok) : Wl w B I L S := ⟨h.box, h.bg, h.dsk, h.dat, h.plc, ok⟩
namespace Wm
variable {w w' : World} {B : Nat} {I : Wd} {L : Lg} {S : Dsk}
theorem kept (h : Wm w B I L S) (hb : Below w.heap.size w w') : Wm w' B I L S :=
  ⟨h.box.kept hb, h.bg, h.dsk.kept hb, own_kept h.dat hb, own_kept h.plc hb⟩
/-- A block of a type of its own grows beside it. -/
theorem beside (h : Wm w B I L S) {k : Nat} {cur : Array Value} (hk : Bk w k 141 cur) (hg : w.grownBy w' (some k)) : Wm w' B I L S :=
  ⟨h.box.grown hg (fun e => by obtain rfl : I.g = k := Option.some.inj e; exact Bk.ne_ h.box hk (by decide) rfl), h.bg,
    h.dsk.grown hg (fun j hj => by obtain rfl : k = j := Option.some.inj hj; exact ⟨_, cur, hk, by decide, by decide, by decide⟩),
    own_grown h.dat hg (fun j hj => by obtain rfl : k = j := Option.some.inj hj; exact ⟨cur, hk⟩) (by decide), own_grown h.plc hg (fun j hj => by obtain rfl : k = j := Option.some.inj hj; exact ⟨cur, hk⟩) (by decide)⟩
theorem cells (h : Wm w B I L S) : w.cell? ⟨I.g, 0, none⟩ = some I.d.ptr ∧ w.cell? ⟨I.g, 1, none⟩ = some (.int .i64 L.first) ∧ w.cell? ⟨I.g, 2, none⟩ = some (.int .i64 L.n) ∧ w.cell? ⟨I.g, 3, none⟩ = some (.int .i64 L.start) ∧ w.cell? ⟨I.g, 4, none⟩ = some (.int .i64 L.fin) ∧ w.cell? ⟨I.g, 5, none⟩ = some (.int .i64 L.firm) ∧ w.cell? ⟨I.g, 6, none⟩ = some I.dv ∧ w.cell? ⟨I.g, 7, none⟩ = some I.pv :=
  ⟨h.box.cell 0, h.box.cell 1, h.box.cell 2, h.box.cell 3, h.box.cell 4, h.box.cell 5, h.box.cell 6, h.box.cell 7⟩
end Wm
/-- The stream's bytes anew. -/
theorem Wm.data {w w' : World} {B g : Nat} {d : Ids} {dv pv a : Value} {L : Lg} {S : Dsk} {s : ByteArray} (h : Wm w B ⟨g, d, dv, pv⟩ L S) (hB : B ≤ w.heap.size) (hown : w'.ownsRow B 5 1 a (L.data.size + s.size) (Lib.strCells L.data ++ Lib.strCells s)) (hgrow : w.grownBy w' dv.ownBlock) :
    Bk w' g 71 (Wd.box ⟨g, d, dv, pv⟩ L) ∧ Wm (w'.setCell ⟨g, 6, none⟩ a) B ⟨g, d, a, pv⟩ { L with data := L.data ++ s } S ∧ Below B w (w'.setCell ⟨g, 6, none⟩ a) := by
  have k := bk_grown h.box h.dat hgrow (by decide)
  rw [strCells_append, ← ByteArray.size_append] at hown
  exact ⟨k, ⟨k.set 6 _, h.bg, (dk_grown h.dsk h.dat hgrow (by decide) (by decide) (by decide)).far (p := ⟨g, 6, none⟩) k (by decide) (by decide) (by decide) _, own_far hown (p := ⟨g, 6, none⟩) k (by decide) _, own_far (own_grown' h.plc h.dat hgrow (by decide)) (p := ⟨g, 6, none⟩) k (by decide) _⟩,
    ((Below.refl _ _).grown hgrow hB (fun j hj => (owns_block h.dat hj).1)).setCell (p := ⟨g, 6, none⟩) h.bg _⟩
/-- What a sector says: its number, how many bytes, which. -/
def secId (s : ByteArray) : Nat := (Oct.rnum (some s) 8).1
def secN (s : ByteArray) : Nat := (Oct.rnum (Oct.rnum (some s) 8).2 2).1
def secB (s : ByteArray) : ByteArray := (Oct.rbytes (Oct.rnum (Oct.rnum (some s) 8).2 2).2 (secN s)).1
theorem nval2 (b : ByteArray) (h : b.size ≤ 2) : Oct.nval b < 65536 := by
  unfold Oct.nval
  split
  · have := Oct.sval_lt b
    have : 256 ^ b.size ≤ 256 ^ 2 := Nat.pow_le_pow_right (by omega) h
    omega
  · omega
theorem rnum2_lt (st : Oct.Rs) : (Oct.rnum st 2).1 < 65536 := by
  cases st with
  | none => show 0 < 65536; omega
  | some s =>
    have h : ¬ ((2 : Int) < 1 ∨ 8 < (2 : Int)) := by omega
    have e : Oct.rnum (some s) 2 = (Oct.nval (Oct.rbytes (some s) 2).1, (Oct.rbytes (some s) 2).2) := by
      show (if (2 : Int) < 1 ∨ 8 < (2 : Int) then ((0 : Nat), (none : Oct.Rs)) else (Oct.nval (Oct.rbytes (some s) 2).1, (Oct.rbytes (some s) 2).2)) = _
      rw [if_neg h]
    rw [e]
    refine nval2 _ ?_
    show (if (2 : Int) < 0 ∨ (s.size : Int) < 2 then ((⟨#[]⟩ : ByteArray), (none : Oct.Rs)) else (s.extract 0 (2 : Int).toNat, some (s.extract (2 : Int).toNat s.size))).1.size ≤ 2
    split
    · show (⟨#[]⟩ : ByteArray).size ≤ 2; decide
    · show (s.extract 0 2).size ≤ 2; rw [ByteArray.size_extract]; omega
theorem secN_lt (s : ByteArray) : secN s < 65536 := rnum2_lt _
theorem rbytes_len (st : Oct.Rs) (n : Nat) : (Oct.rbytes st n).1.size ≤ n := by
  cases st with
  | none => exact Nat.zero_le _
  | some s =>
    show (if (n : Int) < 0 ∨ (s.size : Int) < n then ((⟨#[]⟩ : ByteArray), (none : Oct.Rs)) else (s.extract 0 (n : Int).toNat, some (s.extract (n : Int).toNat s.size))).1.size ≤ n
    split
    · exact Nat.zero_le _
    · show (s.extract 0 (n : Int).toNat).size ≤ n; rw [ByteArray.size_extract]; simp; omega
theorem secB_len (s : ByteArray) : (secB s).size ≤ secN s := rbytes_len _ _
/-- What load gathers, so many sectors from the i-th on. -/
def ldFrom (get : Nat → ByteArray) (k : Nat) : Nat → Nat → ByteArray → ByteArray
  | 0, _, d => d
  | m + 1, i, d => if secId (get (k + i)) ≠ k + i + 1 ∨ 54 < secN (get (k + i)) then d else if secN (get (k + i)) < 54 then d ++ secB (get (k + i)) else ldFrom get k m (i + 1) (d ++ secB (get (k + i)))
def Lg.get (L : Lg) (S : Dsk) (k : Nat) : ByteArray := S.now.getD (L.first + k % L.n) ⟨#[]⟩
theorem ringm_any {w : World} {B : Nat} {I : Wd} {L : Lg} {S : Dsk} (h : Wm w B I L S) (k : Nat) (hk : k ≤ 1152921504606846976) (n1 : 1 ≤ L.n) (n2 : L.n ≤ 4096) (f1 : L.first ≤ 16384) :
    Calls Tryz.prog 59 #[I.ptr, .int .i64 k] w fun e w' => e = .returned (.int .i64 ((L.first + k % L.n : Nat) : Int)) ∧ ∃ n, w' = w.drewN n := by
  obtain ⟨-, c1, c2, -, -, -, -, -⟩ := h.cells
  have hn0 : ¬ (L.n : Int) = 0 := by omega
  have hn0' : ((L.n : Int) == 0) = false := by simp; omega
  have hn0'' : ¬ L.n = 0 := by omega
  have et : (k : Int).tmod (L.n : Int) = (k : Int) % (L.n : Int) := Int.tmod_eq_emod_of_nonneg (by omega)
  have EQ := Lib.hid (show ((L.first + k % L.n : Nat) : Int) = (L.first : Int) + (k : Int) % (L.n : Int) by rw [Int.natCast_add, Int.natCast_emod])
  have ha := Int.emod_nonneg (k : Int) hn0
  have hb := Int.emod_lt_of_pos (k : Int) (show (0 : Int) < (L.n : Int) by omega)
  unfold Wd.ptr
  clear h
  go_enter Tryz.func59, Tryz.ntmps59
  go_wp2_with fail
  go_quiet (fail)
  go_wp2
  go_ret
  exact ⟨by rw [EQ.out]; rfl, _, rfl⟩

set_option maxRecDepth 100000 in
set_option maxHeartbeats 4000000 in
theorem load_any {w : World} {B : Nat} {I : Wd} {L : Lg} {S : Dsk} (h : Wm w B I L S) (n1 : 1 ≤ L.n) (n2 : L.n ≤ 4096) (f1 : L.first + L.n ≤ S.firm.length) (hst : L.start ≤ 1152921504606846976) (hd : S.down = false) (hdt : L.data.size = 0) (hB : B ≤ w.heap.size) :
    Calls Tryz.prog 36 #[I.ptr] w fun e w' => e = .returned (.int .i64 0) ∧ ∃ dv, Wm w' B ⟨I.g, I.d, dv, I.pv⟩ { L with data := ldFrom (L.get S) (L.start / 54) L.n 0 L.data } S ∧ Below B w w' := by
  have H := Lib.hid h; have HB := Lib.hid hB
  have hm := h.dsk.ok.most
  obtain ⟨c0, c1, c2, c3, c4, c5, c6, c7⟩ := h.cells
  have et : (L.start : Int).tdiv 54 = ((L.start / 54 : Nat) : Int) := by rw [Int.tdiv_eq_ediv_of_nonneg (by omega)]; simp
  have F1 := Lib.hid f1; have HD := Lib.hid hd; have N1 := Lib.hid n1
  have hk0 : L.start / 54 ≤ 1152921504606846976 := by omega
  have HM := Lib.hid hm
  obtain ⟨g, d, dv, pv⟩ := I
  unfold Wd.ptr
  dsimp only at c0 c1 c2 c3 c4 c5 c6 c7 ⊢
  have RES := Lib.hid (show ldFrom (L.get S) (L.start / 54) L.n 0 L.data = ldFrom (L.get S) (L.start / 54) L.n 0 L.data from rfl)
  clear h hB hm f1 hd n1 c0 c1 c4 c5 c6 c7
  generalize hK : L.start / 54 = K at *
  go_enter Tryz.func36, Tryz.ntmps36
  go_wp2_with fail
  go_loopw [19] (fun i wr => ∃ (j : Nat) (dv : Value) (dd : ByteArray), j ≤ L.n ∧ i = .int .i64 j ∧ Wm wr B ⟨g, d, dv, pv⟩ { L with data := dd } S ∧ ldFrom (L.get S) K L.n 0 L.data = ldFrom (L.get S) K (L.n - j) j dd ∧ dd.size ≤ 54 * j ∧ Below B w wr) (fun i _ => L.n - (intOf i).toNat)
  case atStart => exact ⟨0, dv, L.data, Nat.zero_le _, rfl, H.out, rfl, by omega, Below.refl _ _⟩
  case round =>
    obtain ⟨j, dv, dd, hj, rfl, hW, hld, hdd, hb⟩ := hrel
    have W := Lib.hid hW; have LD := Lib.hid hld; have DD := Lib.hid hdd; have BB := Lib.hid hb
    clear hW hld hdd hb c2 c3
    by_cases hlt : j < L.n
    · have HLT := Lib.hid hlt
      have k0 : wr.cell? ⟨g, 0, none⟩ = some (.pointer (some ⟨d.g, 0, none⟩)) := W.out.box.cell 0
      have CR := Lib.hid (fun q => ringm_any (L := { L with data := dd }) (W.out.kept (below_drewN (Below.refl _ _) q)) (K + j) (by omega) N1.out n2 (by have := F1.out; have := HM.out; show L.first ≤ 16384; omega))
      have SR := Lib.hid (show S.read (((L.first + (K + j) % L.n : Nat)) : Int) = (L.get S (K + j), 0) from by
        have a := Nat.mod_lt (K + j) (show 0 < L.n by omega)
        have b := F1.out
        unfold Dsk.read
        rw [HD.out, if_neg (by simp), if_pos ⟨by omega, by omega⟩, Int.toNat_natCast]
        rfl)
      have CD := Lib.hid (fun q => by have c := read_any (W.out.kept (below_drewN (Below.refl _ _) q)).dsk (((L.first + (K + j) % L.n : Nat)) : Int); rw [SR.out] at c; exact c)
      have S64 := Lib.hid (show (L.get S (K + j)).size = 64 from W.out.dsk.ok.sizes _ (by rw [W.out.dsk.ok.len]; have a := Nat.mod_lt (K + j) (show 0 < L.n by omega); have b := F1.out; omega))
      unfold Wd.ptr Ids.ptr at *
      dsimp only at CR
      rw [Int.natCast_add] at CR
      generalize (L.first + (K + j) % L.n : Nat) = rp at *
      go_wp2_with fail
      go_quiet (first | (go_at_call 59; exact Calls.quiet_of (CR.out _)) | (go_at_call 39; exact Calls.quiet_of_same (CD.out _)))
      have B1 := Lib.hid (below_drewN (Below.refl wr.heap.size wr) nq)
      have W1 := Lib.hid (W.out.kept B1.out)
      have BB1 := Lib.hid (below_then BB.out B1.out (Nat.le_trans HB.out BB.out.size))
      generalize wr.drewN nq = wq at *
      have LS := Lib.hid (show ldFrom (L.get S) K (L.n - j) j dd = if secId (L.get S (K + j)) ≠ K + j + 1 ∨ 54 < secN (L.get S (K + j)) then dd else if secN (L.get S (K + j)) < 54 then dd ++ secB (L.get S (K + j)) else ldFrom (L.get S) K (L.n - (j + 1)) (j + 1) (dd ++ secB (L.get S (K + j))) from by
        obtain ⟨m, hm'⟩ : ∃ m, L.n - j = m + 1 := ⟨L.n - j - 1, by omega⟩
        rw [hm', show L.n - (j + 1) = m by omega]
        rfl)
      generalize L.get S (K + j) = sec at *
      have E1 := Lib.hid (show secId sec = (Oct.rnum (some sec) 8).1 from rfl); have E2 := Lib.hid (show secN sec = (Oct.rnum (Oct.rnum (some sec) 8).2 2).1 from rfl); have E3 := Lib.hid (show secB sec = (Oct.rbytes (Oct.rnum (Oct.rnum (some sec) 8).2 2).2 (secN sec)).1 from rfl)
      have NL := Lib.hid (secN_lt sec); have BL := Lib.hid (secB_len sec)
      have Z1 := Lib.hid (show ((Oct.rnum (some sec) 8).2.getD ⟨#[]⟩).size ≤ maxLen from Nat.le_trans (rnum_size _ _) (by show sec.size ≤ maxLen; rw [S64.out]; decide))
      have Z2 := Lib.hid (show ((Oct.rnum (Oct.rnum (some sec) 8).2 2).2.getD ⟨#[]⟩).size ≤ maxLen from Nat.le_trans (rnum_size _ _) Z1.out)
      have IL := Lib.hid (rnum_lt (some sec) 8)
      have CO := Lib.hid (rd_read sec wq)
      clear CR CD SR W BB k0 B1
      go_wp2_with fail
      refine CO.out.mono ?_
      rintro e w2 ⟨rfl, hr, hb, hlt2⟩
      have W2 := Lib.hid (W1.out.kept hb); have BB2 := Lib.hid (below_then BB1.out hb (Nat.le_trans HB.out BB1.out.size))
      have GB := Lib.hid (show B ≤ wq.heap.size from Nat.le_trans HB.out BB1.out.size)
      have GL := Lib.hid (show wq.heap.size < w2.heap.size from hlt2)
      have CN := Lib.hid (rd_num wq.heap.size 8 (some sec) w2 hr (by show sec.size ≤ maxLen; rw [S64.out]; decide))
      have R2 := Lib.hid hr
      generalize wq.heap.size = gr at *
      clear hr hb hlt2 CO W1 BB1
      go_wp2_with fail
      refine CN.out.mono ?_
      rintro e w3 ⟨rfl, hr, hg⟩
      have W3 := Lib.hid (W2.out.beside (show Bk w2 gr 141 _ from R2.out) hg)
      have BB3 := Lib.hid (BB2.out.grown hg (Nat.le_trans HB.out BB2.out.size) (fun k hk => by obtain rfl : gr = k := Option.some.inj hk; exact GB.out))
      have CN2 := Lib.hid (rd_num gr 2 _ w3 hr Z1.out)
      have R3 := Lib.hid hr
      clear hr hg CN R2 W2 BB2
      go_wp2_with fail
      refine CN2.out.mono ?_
      rintro e w4 ⟨rfl, hr, hg⟩
      have W4 := Lib.hid (W3.out.beside (show Bk w3 gr 141 _ from R3.out) hg)
      have BB4 := Lib.hid (BB3.out.grown hg (Nat.le_trans HB.out BB3.out.size) (fun k hk => by obtain rfl : gr = k := Option.some.inj hk; exact GB.out))
      have R4 := Lib.hid hr
      clear hr hg CN2 R3 W3 BB3
      rw [← E1.out, ← E2.out]
      have il := IL.out
      rw [← E1.out] at il
      have nl := NL.out
      have CBy := Lib.hid (fun w' (h : RdSt w' gr (Oct.rnum (Oct.rnum (some sec) 8).2 2).2) => rd_bytes gr ((secN sec : Nat) : Int) _ w' h Z2.out)
      rw [← E3.out] at CBy
      clear E1 E2 E3 IL
      generalize secId sec = id at *
      generalize secN sec = cn at *
      generalize secB sec = by_ at *
      have wc1 : IntKind.i64.wrap ((cn : Nat) : Int) = (cn : Int) := by rw [IntKind.wrap_i64]; omega
      have wc2 : IntKind.u64.wrap ((K : Int) + (j : Int) + 1) = (K : Int) + (j : Int) + 1 := by rw [IntKind.wrap_u64]; omega
      go_upto_region 10 with fail
      go_cut [55] (fun s55 wx => s55 = .bool (decide (id ≠ K + j + 1 ∨ 54 < cn)) ∧ wx = w4)
      case first =>
        by_cases h1 : id = K + j + 1
        · have b1 : ((id : Int) != (K : Int) + (j : Int) + 1) = false := by simp; omega
          by_cases h2 : 54 < cn
          · have b2 : (54 : Int) < (cn : Int) := by omega
            have hr : decide (id ≠ K + j + 1 ∨ 54 < cn) = true := decide_eq_true (.inr h2)
            clear h1
            go_wp2_with fail
            go_meet
            exact ⟨by rw [hr], rfl⟩
          · have b2 : ¬ (54 : Int) < (cn : Int) := by omega
            have hr : decide (id ≠ K + j + 1 ∨ 54 < cn) = false := decide_eq_false (by omega)
            clear h1
            go_wp2_with fail
            go_meet
            exact ⟨by rw [hr], rfl⟩
        · have b1 : ((id : Int) != (K : Int) + (j : Int) + 1) = true := by simp; omega
          have hr : decide (id ≠ K + j + 1 ∨ 54 < cn) = true := decide_eq_true (.inl h1)
          clear h1
          go_wp2_with fail
          go_meet
          exact ⟨by rw [hr], rfl⟩
      case rest =>
      obtain ⟨rfl, rfl⟩ := hcut
      by_cases hbk : id ≠ K + j + 1 ∨ 54 < cn
      · have RD := Lib.hid (show ldFrom (L.get S) K L.n 0 L.data = dd from by rw [LD.out, LS.out, if_pos hbk])
        have hd : decide (id ≠ K + j + 1 ∨ 54 < cn) = true := decide_eq_true hbk
        rw [hd]
        clear hbk hd LS LD
        go_wp2_with fail
        go_ret
        exact ⟨rfl, dv, by rw [RD.out]; exact W4.out, BB4.out⟩
      have hd : decide (id ≠ K + j + 1 ∨ 54 < cn) = false := decide_eq_false hbk
      rw [hd]
      have LT := Lib.hid (show ldFrom (L.get S) K L.n 0 L.data = if cn < 54 then dd ++ by_ else ldFrom (L.get S) K (L.n - (j + 1)) (j + 1) (dd ++ by_) from by rw [LD.out, LS.out, if_neg hbk])
      have c54 : cn ≤ 54 := by omega
      have C54 := Lib.hid c54
      clear hd hbk LS LD
      go_upto_region 11 with fail
      have k1 : wc.cell? ⟨g, 6, none⟩ = some dv := W4.out.box.cell 6
      have W4' := Lib.hid (W4.out.kept ((Below.refl _ _).drew))
      have HB4 := Lib.hid (Nat.le_trans HB.out BB4.out.size)
      obtain ⟨i2, hi2, hx0, hx1, hx2⟩ := info_parts Tryz.info5'
      go_region_law? (first
      | (go_simp; go_at_call 62; refine (CBy.out wc.drew R4.out).mono ?_; rintro e w5 ⟨rfl, hr5, hg5⟩; have W5 := Lib.hid (W4'.out.beside (show Bk wc.drew gr 141 _ from R4.out) hg5); have BB5 := Lib.hid (BB4.out.drew.grown hg5 HB4.out (fun k hk => by obtain rfl : gr = k := Option.some.inj hk; exact GB.out)); have k2 : w5.cell? ⟨g, 6, none⟩ = some dv := W5.out.box.cell 6; clear hr5 hg5)
      | (refine step_append_string _ rfl _ _ 63 9 rfl B 5 i2 Tryz.underlying63 Tryz.underlying9 hi2 hx0 hx1 hx2 dv dd.size (Lib.strCells dd) rfl W5.out.dat by_ rfl (by have := DD.out; have := BL.out; have := C54.out; unfold maxLen; omega) (by have := DD.out; have := BL.out; have := C54.out; omega) (Nat.le_trans HB.out BB5.out.size) ?_; intro dv' w6 hown hgrow; obtain ⟨da, dc, hde⟩ := tx_slice hown; subst hde; have k3 : w6.cell? ⟨g, 6, none⟩ = some dv := (W5.out.data (Nat.le_trans HB.out BB5.out.size) hown hgrow).1.cell 6; have k4 := (W5.out.data (Nat.le_trans HB.out BB5.out.size) hown hgrow).1.fz 6))
      all_goals
        have W6 := Lib.hid (W5.out.data (Nat.le_trans HB.out BB5.out.size) hown hgrow).2.1
        have BB6 := Lib.hid (BB5.out.trans (W5.out.data (Nat.le_trans HB.out BB5.out.size) hown hgrow).2.2)
        clear hown hgrow k1 k2 k3 k4 W5 W4 W4' BB4 BB5 R4 CBy
        dsimp only at W6
        generalize (w6.setCell ⟨g, 6, none⟩ (.slice da (dd.size + by_.size) dc)) = w7 at *
        by_cases hcn : cn < 54
        · have RD := Lib.hid (show ldFrom (L.get S) K L.n 0 L.data = dd ++ by_ from by rw [LT.out, if_pos hcn])
          have hcn' : (cn : Int) < 54 := by omega
          clear hcn LT
          go_wp2_with fail
          go_ret
          exact ⟨rfl, _, by rw [RD.out]; exact W6.out, BB6.out⟩
        · have RD := Lib.hid (show ldFrom (L.get S) K L.n 0 L.data = ldFrom (L.get S) K (L.n - (j + 1)) (j + 1) (dd ++ by_) from by rw [LT.out, if_neg hcn])
          have hcn' : ¬ (cn : Int) < 54 := by omega
          clear hcn LT
          go_wp2_with fail
          go_roundw
          case rel => exact ⟨j + 1, _, dd ++ by_, by have := HLT.out; omega, by go_num, W6.out, RD.out, by have := DD.out; have := BL.out; have := C54.out; rw [ByteArray.size_append]; omega, BB6.out⟩
          case measure => have := HLT.out; simp [intOf]; omega
    · go_wp2_with fail
      go_ret
      obtain rfl : j = L.n := by omega
      exact ⟨rfl, dv, by rw [LD.out, Nat.sub_self]; exact W.out, BB.out⟩
end Go.Proofs.YtgafajbdmegfgaaGreat
