/- The walk of FrameTorn. -/
import Derived.Test.YtflfighlilogpaaFrameLaws2
import Derived.BigRegion
set_option linter.unusedVariables false
set_option linter.unusedSimpArgs false
namespace Go.Proofs.Ytflfighlilogpaa
open Go.RowKit Go.ChangeShapes Go.WideShapes Go.ChangeAt Go.Deep

theorem back_flip (str : ByteArray) (N a y : Nat) (hN : str.size = N) (ha : a < N) (hy : y < 256) (wx : World) (g cp : Nat)
    (hc : ∀ j, j < N → wx.cell? ⟨g, j, none⟩ = some (.int .u8 ((if j = a then y else (str.data.toList.getD j 0).toNat : Nat) : Int))) :
    (convert 39 9 (.slice (some ⟨g, 0, none⟩) N cp)).run Try.prog wx = .ok (.string (flip str a (UInt8.ofNat y))) wx := by
  have hl : (str.data.toList.set a (UInt8.ofNat y)).length = N := by
    rw [List.length_set]; simpa using hN
  have := run_convert_bytes_back (P := Try.prog) wx 39 9 5 ⟨g, 0, none⟩ cp (str.data.toList.set a (UInt8.ofNat y)) Try.underlying39 Try.underlying5 Try.underlying9 (fun j hj => by
    have hadd : (⟨g, 0, none⟩ : Addr).add j = ⟨g, j, none⟩ := by
      unfold Addr.add
      by_cases h : j = 0
      · subst h; simp
      · simp [h]
    rw [hadd, hc j (by omega)]
    rw [List.getElem_set]
    by_cases h : a = j
    · subst h
      simp only [if_true]
      rw [UInt8.toNat_ofNat', Nat.mod_eq_of_lt hy]
    · rw [if_neg (fun e => h e.symm), if_neg h]
      have hjl : j < str.data.toList.length := by rw [List.length_set] at hj; exact hj
      simp only [List.getD, List.getElem?_eq_getElem hjl, Option.getD])
  rw [hl] at this
  exact this
/-- The row of bytes with one byte turned, cell by cell. -/
theorem turned {w w' : World} {str : ByteArray} {cap : Nat} (B : Bytes w w' str cap) (a y : Nat) (ha : a < str.size) (g : Nat) (hg : w.heap.size = g) :
    ∀ j, j < str.size → (w'.setCell ⟨g, a, none⟩ (.int .u8 y)).cell? ⟨g, j, none⟩ = some (.int .u8 ((if j = a then y else (str.data.toList.getD j 0).toNat : Nat) : Int)) := by
  subst hg
  intro j hj
  by_cases h : j = a
  · subst h
    rw [if_pos rfl]
    exact World.cell?_setCell_same _ _ _ (B.cell j hj)
  · rw [if_neg h, World.cell?_setCell_other _ _ _ _ (by intro e; injection e with _ e2 _; exact h e2.symm)]
    exact B.cell j hj
/-- Four sectors, one of them turned. -/
def zed (S : Nat → ByteArray) (s : Nat) (x : ByteArray) (i : Nat) : ByteArray := if i = s then x else S i
theorem arr_zed (S : Nat → ByteArray) (s : Nat) (x : ByteArray) (hs : s < 4) : (Fr.arr S).setIfInBounds s (.string x) = Fr.arr (zed S s x) := by
  rcases Fr.four hs with rfl | rfl | rfl | rfl <;> simp [Fr.arr, zed]
theorem torn_open_of (S : Nat → ByteArray) (m : ByteArray) (s a : Nat) (x : UInt8) (hs : s < 4) (ha : 56 ≤ a) (ha2 : a < 64)
    (hS : ∀ i, i < 4 → (S i).size = 64) (hT : ∀ i, i < 4 → Fr.tl (S i) = m) (hx : (S s).data.toList.getD a 0 ≠ x) :
    Fr.opened (zed S s (flip (S s) a x)) = (⟨#[]⟩, 0, 30) := by
  have h64 := hS s hs
  have hflip : Fr.tl (flip (S s) a x) ≠ m := by
    rw [← hT s hs]
    unfold Fr.tl
    rw [flip_size]
    have := flip_near (S s) a x 56 (S s).size ha (by omega) (by omega) hx
    exact this
  have hz : (flip (S s) a x).size = 64 := by rw [flip_size]; exact h64
  generalize flip (S s) a x = X at *
  refine Fr.opened_torn (fun i hi => ?_) ?_
  · unfold zed
    split
    · exact hz
    · exact hS i hi
  · by_cases h0 : s = 0
    · subst h0
      refine ⟨1, by omega, ?_⟩
      simp only [zed, if_true]
      rw [if_neg (by omega), hT 1 (by omega)]
      exact fun e => hflip e.symm
    · refine ⟨s, hs, ?_⟩
      simp only [zed, if_true]
      rw [if_neg (by omega), hT 0 (by omega)]
      exact hflip
theorem torn_open (body : ByteArray) (n s a y : Nat) (hb : body.size = 224) (hs : s < 4) (ha : 56 ≤ a) (ha2 : a < 64)
    (hx : (Fr.sec body (Oct.str n 8) s).data.toList.getD a 0 ≠ UInt8.ofNat y) :
    Fr.opened (zed (Fr.sec body (Oct.str n 8)) s (flip (Fr.sec body (Oct.str n 8) s) a (UInt8.ofNat y))) = (⟨#[]⟩, 0, 30) :=
  torn_open_of _ (Oct.str n 8) s a _ hs ha ha2 (fun i hi => Fr.sec_size hb (Oct.str_size _ _) hi) (fun i hi => Fr.sec_tl hb hi) hx
theorem zed_size (S : Nat → ByteArray) (s : Nat) (x : ByteArray) (hS : ∀ i, i < 4 → (S i).size ≤ 64) (hx : x.size ≤ 64) : ∀ i, i < 4 → (zed S s x i).size ≤ maxLen := by
  intro i hi
  have h64 : (64 : Nat) ≤ maxLen := by decide
  unfold zed
  split
  · omega
  · have := hS i hi; omega
theorem pow_all : ∀ b : Fin 8, ((2 : Int) ^ b.val % 256 = ((2 ^ b.val : Nat) : Int)) ∧ 2 ^ b.val < 256 ∧ ∀ m : Fin 256, m.val ≠ m.val ^^^ 2 ^ b.val := by decide +kernel

set_option maxHeartbeats 2000000 in
theorem torn_core (body : ByteArray) (n : Nat) (place : Int) (p s r b8 b1 : Nat) (w : World) (hb : body.size = 224) (hn : n < 18446744073709551616)
    (hlo : -9223372036854775808 ≤ place) (hhi : place ≤ 9223372036854775807) (hp : 0 ≤ place ∧ place = p ∨ place < 0 ∧ -1 - place = p) (hs : (p : Int) % 4 = (s : Int)) (hr : (p : Int) / 4 % 64 = (r : Int)) (hs4 : s < 4) (h8 : ((r : Int) / 8 % 8 + 8) % 8 = (b8 : Int)) (h1 : ((r : Int) % 8 + 8) % 8 = (b1 : Int)) (h88 : b8 < 8) (h18 : b1 < 8) (hr64 : r < 64) :
    Calls Try.prog 6 #[.string body, .int .u64 n, .int .i64 place] w fun e w' => e = .returned (.bool true) ∧ Below w.heap.size w w' := by
  have c := fun w => seal_good body n w hb hn
  obtain ⟨hv, hv256, hvne⟩ := pow_all ⟨b1, h18⟩
  simp only at hv hv256 hvne
  have hS : ∀ i, i < 4 → (Fr.sec body (Oct.str n 8) i).size = 64 := fun i hi => Fr.sec_size hb (Oct.str_size _ _) hi
  have hxlt := UInt8.toNat_lt ((Fr.sec body (Oct.str n 8) s).data.toList.getD (56 + b8) 0)
  have hylt : ((Fr.sec body (Oct.str n 8) s).data.toList.getD (56 + b8) 0).toNat ^^^ 2 ^ b1 < 256 := Nat.xor_lt_two_pow (n := 8) (by omega) (by omega)
  have hxor : bits .xor .u8 (((Fr.sec body (Oct.str n 8) s).data.toList.getD (56 + b8) 0).toNat : Int) ((2 ^ b1 : Nat) : Int) = ((((Fr.sec body (Oct.str n 8) s).data.toList.getD (56 + b8) 0).toNat ^^^ 2 ^ b1 : Nat) : Int) := u8_xor_nat _ _ (by omega) hv256
  have hyne : (Fr.sec body (Oct.str n 8) s).data.toList.getD (56 + b8) 0 ≠ UInt8.ofNat (((Fr.sec body (Oct.str n 8) s).data.toList.getD (56 + b8) 0).toNat ^^^ 2 ^ b1) := by
    intro e
    have e1 := congrArg UInt8.toNat e
    rw [UInt8.toNat_ofNat', Nat.mod_eq_of_lt hylt] at e1
    exact hvne ⟨_, hxlt⟩ e1
  have hop := torn_open body n s (56 + b8) _ hb hs4 (by omega) (by omega) hyne
  have hfs : (flip (Fr.sec body (Oct.str n 8) s) (56 + b8) (UInt8.ofNat (((Fr.sec body (Oct.str n 8) s).data.toList.getD (56 + b8) 0).toNat ^^^ 2 ^ b1))).size = 64 := by rw [flip_size]; exact hS s hs4
  have d := fun w => open_any (zed (Fr.sec body (Oct.str n 8)) s (flip (Fr.sec body (Oct.str n 8) s) (56 + b8) (UInt8.ofNat (((Fr.sec body (Oct.str n 8) s).data.toList.getD (56 + b8) 0).toNat ^^^ 2 ^ b1)))) w
    (zed_size _ s _ (fun i hi => by rw [hS i hi]; omega) (by rw [hfs]; omega))
  rw [hop] at d
  generalize Fr.sec body (Oct.str n 8) = S at *
  generalize hx0 : (S s).data.toList.getD (56 + b8) 0 = xb at *
  generalize hvv : 2 ^ b1 = v at *
  generalize hy : xb.toNat ^^^ v = y at *
  have hs2 : ((s : Int) % 4 + 4) % 4 = (s : Int) := by omega
  obtain ⟨F, CP, hF, hFp⟩ := bytes_of (P := Try.prog) 9 39 5 (S s) Try.underlying9 Try.underlying39 Try.underlying5
  have hne : ((body.size : Int) != 224) = false := by simp [hb]
  have hS64 := hS s hs4
  rw [hS64] at hF
  have C := Lib.hid c; have D := Lib.hid d; have HX0 := Lib.hid hx0; have HFP := Lib.hid hFp; have HS64 := Lib.hid hS64; have HYL := Lib.hid hylt
  clear c d hx0 hvv hy hyne hop hfs hvne hv256 hxlt hn hb hS hS64 hFp hylt
  simp only [Fr.sv] at C D
  have hget : (#[Value.string (S 0), Value.string (S 1), Value.string (S 2), Value.string (S 3)] : Array Value)[s]? = some (.string (S s)) := Fr.arr_get S s hs4
  have hget2 := hget
  simp only [List.getElem?_toArray] at hget2
  obtain ⟨hl4, hget3⟩ := List.getElem?_eq_some_iff.1 hget2
  clear hget hget2
  rcases hp with ⟨hp0, hp⟩ | ⟨hp0, hp⟩
  · subst hp
    go_enter Try.func6, Try.ntmps6
    go_wp2_with fail
    refine (awake_any _).mono ?_
    rintro e w1 ⟨rfl, hb1⟩
    go_wp2_with fail
    refine (C.out _).mono ?_
    rintro e w2 ⟨rfl, hb2⟩
    have hB2 := below_then hb1 hb2 hb1.size
    clear hb1 hb2
    have gx : Bk (w2.alloc (.cells #[.string (S 0), .string (S 1), .string (S 2), .string (S 3)] 23)) w2.heap.size 23 (Fr.arr S) := Bk.new _ _ _
    have B3 := HFP.out (w2.alloc (.cells #[.string (S 0), .string (S 1), .string (S 2), .string (S 3)] 23))
    have q0 := B3.cell (56 + b8) (by have := HS64.out; omega)
    have qf := B3.fz (56 + b8) (by have := HS64.out; omega)
    rw [HX0.out] at q0
    have gS := (gx.kept B3.below).far (p := ⟨w2.heap.size + 1, 56 + b8, none⟩) (by simp) (.int .u8 y)
    have hB3 := ((below_then (hB2.alloc hB2.size _) B3.below (by simp; have := hB2.size; omega)).setCell (p := ⟨w2.heap.size + 1, 56 + b8, none⟩) (by simp; have := hB2.size; omega) (.int .u8 y))
    have hT := turned B3 (56 + b8) y (by have := HS64.out; omega) (w2.heap.size + 1) (by simp)
    rw [HS64.out] at hT
    have hrun := back_flip (S s) 64 (56 + b8) y HS64.out (by omega) HYL.out ((F (w2.alloc (.cells #[.string (S 0), .string (S 1), .string (S 2), .string (S 3)] 23))).setCell ⟨w2.heap.size + 1, 56 + b8, none⟩ (.int .u8 y)).drew (w2.heap.size + 1) (CP (w2.alloc (.cells #[.string (S 0), .string (S 1), .string (S 2), .string (S 3)] 23))) hT
    have c4 := gS.cell s
    rw [Fr.arr_get _ s hs4] at c4
    have f4 := gS.fz s
    simp only [World.size_alloc] at q0 qf
    have gZ := gS.set s (.string (flip (S s) (56 + b8) (UInt8.ofNat y)))
    rw [arr_zed _ _ _ hs4] at gZ
    have hBZ := hB3.setCell (p := ⟨w2.heap.size, s, none⟩) hB2.size (.string (flip (S s) (56 + b8) (UInt8.ofNat y)))
    generalize flip (S s) (56 + b8) (UInt8.ofNat y) = X at *
    have z0 := gZ.cell 0; have z1 := gZ.cell 1; have z2 := gZ.cell 2; have z3 := gZ.cell 3
    simp only [Fr.arr, List.getElem?_toArray, List.getElem?_cons_zero, List.getElem?_cons_succ] at z0 z1 z2 z3
    have HBZ := Lib.hid hBZ
    clear gx B3 gS hB3 hT gZ hBZ hB2
    go_wp2
    go_region
    go_wp2_with fail
    go_outline
    refine (D.out _).mono ?_
    rintro e w5 ⟨rfl, hb5⟩
    have hB5 := below_then HBZ.out.drew hb5 HBZ.out.size
    clear hb5
    go_wp2
    go_ret
    exact ⟨rfl, hB5⟩
  · have hge : ¬ 0 ≤ place := by omega
    go_enter Try.func6, Try.ntmps6
    go_wp2_with fail
    refine (awake_any _).mono ?_
    rintro e w1 ⟨rfl, hb1⟩
    go_wp2_with fail
    refine (C.out _).mono ?_
    rintro e w2 ⟨rfl, hb2⟩
    have hB2 := below_then hb1 hb2 hb1.size
    clear hb1 hb2
    have gx : Bk (w2.alloc (.cells #[.string (S 0), .string (S 1), .string (S 2), .string (S 3)] 23)) w2.heap.size 23 (Fr.arr S) := Bk.new _ _ _
    have B3 := HFP.out (w2.alloc (.cells #[.string (S 0), .string (S 1), .string (S 2), .string (S 3)] 23))
    have q0 := B3.cell (56 + b8) (by have := HS64.out; omega)
    have qf := B3.fz (56 + b8) (by have := HS64.out; omega)
    rw [HX0.out] at q0
    have gS := (gx.kept B3.below).far (p := ⟨w2.heap.size + 1, 56 + b8, none⟩) (by simp) (.int .u8 y)
    have hB3 := ((below_then (hB2.alloc hB2.size _) B3.below (by simp; have := hB2.size; omega)).setCell (p := ⟨w2.heap.size + 1, 56 + b8, none⟩) (by simp; have := hB2.size; omega) (.int .u8 y))
    have hT := turned B3 (56 + b8) y (by have := HS64.out; omega) (w2.heap.size + 1) (by simp)
    rw [HS64.out] at hT
    have hrun := back_flip (S s) 64 (56 + b8) y HS64.out (by omega) HYL.out ((F (w2.alloc (.cells #[.string (S 0), .string (S 1), .string (S 2), .string (S 3)] 23))).setCell ⟨w2.heap.size + 1, 56 + b8, none⟩ (.int .u8 y)).drew (w2.heap.size + 1) (CP (w2.alloc (.cells #[.string (S 0), .string (S 1), .string (S 2), .string (S 3)] 23))) hT
    have c4 := gS.cell s
    rw [Fr.arr_get _ s hs4] at c4
    have f4 := gS.fz s
    simp only [World.size_alloc] at q0 qf
    have gZ := gS.set s (.string (flip (S s) (56 + b8) (UInt8.ofNat y)))
    rw [arr_zed _ _ _ hs4] at gZ
    have hBZ := hB3.setCell (p := ⟨w2.heap.size, s, none⟩) hB2.size (.string (flip (S s) (56 + b8) (UInt8.ofNat y)))
    generalize flip (S s) (56 + b8) (UInt8.ofNat y) = X at *
    have z0 := gZ.cell 0; have z1 := gZ.cell 1; have z2 := gZ.cell 2; have z3 := gZ.cell 3
    simp only [Fr.arr, List.getElem?_toArray, List.getElem?_cons_zero, List.getElem?_cons_succ] at z0 z1 z2 z3
    have HBZ := Lib.hid hBZ
    clear gx B3 gS hB3 hT gZ hBZ hB2
    go_wp2
    go_region
    go_wp2_with fail
    go_outline
    refine (D.out _).mono ?_
    rintro e w5 ⟨rfl, hb5⟩
    have hB5 := below_then HBZ.out.drew hb5 HBZ.out.size
    clear hb5
    go_wp2
    go_ret
    exact ⟨rfl, hB5⟩

theorem walk_FrameTorn (body : ByteArray) (stamp place : Int) (w : World) (hb : body.size ≤ maxLen) (h0 : 0 ≤ stamp) (h1 : stamp ≤ 18446744073709551615) (hlo : -9223372036854775808 ≤ place) (hhi : place ≤ 9223372036854775807) :
    Calls Try.prog 6 #[.string body, .int .u64 stamp, .int .i64 place] w fun e w' => e = .returned (.bool true) ∧ Below w.heap.size w w' := by
  obtain ⟨n, rfl⟩ := Int.eq_ofNat_of_zero_le h0
  obtain ⟨p, hp⟩ : ∃ p : Nat, 0 ≤ place ∧ place = p ∨ place < 0 ∧ -1 - place = p := by
    by_cases h : 0 ≤ place
    · exact ⟨place.toNat, .inl ⟨h, by omega⟩⟩
    · exact ⟨(-1 - place).toNat, .inr ⟨by omega, by omega⟩⟩
  by_cases h : body.size = 224
  · exact torn_core body n place p (p % 4) (p / 4 % 64) (p / 4 % 64 / 8) (p / 4 % 64 % 8) w h (by omega) hlo hhi hp (by omega) (by omega) (by omega) (by omega) (by omega) (by omega) (by omega) (by omega)
  · have c := fun w => seal_bad body n w h
    have hne : ((body.size : Int) != 224) = true := by simp; omega
    unfold Fr.sv Fr.nils at c
    have C := Lib.hid c; clear c h h0 h1 hb
    rcases hp with ⟨hp0, hp⟩ | ⟨hp0, hp⟩
    all_goals
      go_enter Try.func6, Try.ntmps6
      go_wp2_with fail
      refine (awake_any _).mono ?_
      rintro e w1 ⟨rfl, hb1⟩
      go_wp2_with fail
      refine (C.out _).mono ?_
      rintro e w2 ⟨rfl, hb2⟩
      have hB2 := below_then hb1 hb2 hb1.size
      clear hb1 hb2
      have HB3 := Lib.hid (hB2.alloc hB2.size (.cells #[.string ⟨#[]⟩, .string ⟨#[]⟩, .string ⟨#[]⟩, .string ⟨#[]⟩] 23)); clear hB2
      go_wp2
      go_ret
      exact ⟨rfl, HB3.out⟩

end Go.Proofs.Ytflfighlilogpaa
