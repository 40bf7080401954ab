/- The walk of FrameShares. -/
import Derived.Test.YtflfighlilogpaaFrameLaws
import Derived.Laws.IdiomStrings
set_option linter.unusedVariables false
set_option linter.unusedSimpArgs false
namespace Go.Proofs.Ytflfighlilogpaa
open Go.RowKit Go.ChangeShapes Go.WideShapes Go.ChangeAt Go.Deep

/-- '[]byte(s)' makes a new row: its first places are the bytes, none of them frozen; nothing else has turned. -/
structure Bytes (w w' : World) (s : ByteArray) (cap : Nat) : Prop where
  below : Below w.heap.size w w'
  lt : w.heap.size < w'.heap.size
  cell : ∀ j, j < s.size → w'.cell? ⟨w.heap.size, j, none⟩ = some (.int .u8 ((s.data.toList.getD j 0).toNat : Int))
  fz : ∀ j, j < s.size → w'.frozen? ⟨w.heap.size, j, none⟩ = false
  cap : s.size ≤ cap

theorem bytes_of {P : Program} (src dst e : TypeId) (s : ByteArray) (hs : P.underlying src = some .string) (hd : P.underlying dst = some (.slice e)) (he : P.underlying e = some (.int .u8)) :
    ∃ (F : World → World) (C : World → Nat), (∀ w, (convert src dst (.string s)).run P w = .ok (.slice (some ⟨w.heap.size, 0, none⟩) s.size (C w)) (F w)) ∧ ∀ w, Bytes w (F w) s (C w) := by
  refine ⟨fun w => w.drew.alloc (.cells (bytesRow s (grownCap w s.size 0 e)) e ((bytesRow s (grownCap w s.size 0 e)).size, (bytesRow s (grownCap w s.size 0 e)).size + 1)), fun w => grownCap w s.size 0 e,
    fun w => run_bytes_of_string w src dst e s hs hd he, fun w => ?_⟩
  have hge := grownCap_ge w s.size 0 e
  have hsz : s.size ≤ (bytesRow s (grownCap w s.size 0 e)).size := by simp [bytesRow]
  have hnew : (w.drew.alloc (.cells (bytesRow s (grownCap w s.size 0 e)) e ((bytesRow s (grownCap w s.size 0 e)).size, (bytesRow s (grownCap w s.size 0 e)).size + 1))).heap[w.heap.size]? = some (.cells (bytesRow s (grownCap w s.size 0 e)) e ((bytesRow s (grownCap w s.size 0 e)).size, (bytesRow s (grownCap w s.size 0 e)).size + 1)) := heap_alloc_new w.drew _
  refine ⟨(Below.refl _ _).drew.alloc (Nat.le_refl _) _, by simp, fun j hj => ?_, fun j hj => ?_, hge⟩
  · rw [cell_of_row _ _ j _ _ _ hnew]
    simp [bytesRow, Array.getElem?_append, List.getD, hj]
  · simp only [World.frozen?, hnew]
    simp; omega

/-- A string with one byte turned. -/
def flip (s : ByteArray) (a : Nat) (x : UInt8) : ByteArray := ⟨(s.data.toList.set a x).toArray⟩

theorem flip_size (s : ByteArray) (a : Nat) (x : UInt8) : (flip s a x).size = s.size := by
  show (flip s a x).data.size = s.data.size
  simp [flip]
theorem ext_list (s : ByteArray) (p q : Nat) : (s.extract p q).data.toList = (s.data.toList.drop p).take (q - p) := by
  rw [ByteArray.data_extract, Array.toList_extract, List.extract_eq_take_drop]
theorem flip_far (s : ByteArray) (a : Nat) (x : UInt8) (p q : Nat) (h : a < p ∨ q ≤ a) : (flip s a x).extract p q = s.extract p q := by
  apply ByteArray.ext
  apply Array.ext'
  rw [ext_list, ext_list]
  show ((s.data.toList.set a x).drop p).take (q - p) = _
  apply List.ext_getElem?
  intro i
  simp only [List.getElem?_take, List.getElem?_drop, List.getElem?_set]
  split
  · rename_i hi
    rw [if_neg (by omega)]
  · rfl
theorem flip_near (s : ByteArray) (a : Nat) (x : UInt8) (p q : Nat) (h1 : p ≤ a) (h2 : a < q) (h3 : a < s.size) (hx : s.data.toList.getD a 0 ≠ x) : (flip s a x).extract p q ≠ s.extract p q := by
  intro e
  have e1 := congrArg (fun s : ByteArray => s.data.toList[a - p]?) e
  simp only [ext_list] at e1
  have hd : (flip s a x).data.toList = s.data.toList.set a x := by simp [flip]
  rw [hd] at e1
  have h3' : a < s.data.toList.length := by simpa using h3
  simp only [List.getElem?_take, List.getElem?_drop, List.getElem?_set] at e1
  rw [if_pos (show a - p < q - p by omega), if_pos (show a = p + (a - p) by omega), if_pos h3', if_pos (show a - p < q - p by omega), show p + (a - p) = a by omega, List.getElem?_eq_getElem h3'] at e1
  apply hx
  simp only [List.getD, List.getElem?_eq_getElem h3', Option.getD]
  injection e1 with e1
  exact e1.symm
theorem xor_all : ∀ m : Fin 256, m.val ≠ m.val ^^^ 255 := by decide +kernel
theorem sec_far (body mark : ByteArray) (a k : Nat) (x : UInt8) (h : k ≠ a / 56) : Fr.sec (flip body a x) mark k = Fr.sec body mark k := by
  unfold Fr.sec
  rw [flip_far body a x _ _ (by omega)]
theorem sec_near (body mark : ByteArray) (a k : Nat) (x : UInt8) (hb : body.size = 224) (ha : a < 224) (hk : k < 4) (h : k = a / 56) (hx : body.data.toList.getD a 0 ≠ x) : Fr.sec body mark k ≠ Fr.sec (flip body a x) mark k := by
  intro e
  have e1 := congrArg (fun s : ByteArray => s.extract 0 56) e
  simp only [Fr.sec_part hb hk, Fr.sec_part (show (flip body a x).size = 224 by rw [flip_size]; exact hb) hk] at e1
  exact flip_near body a x (k * 56) ((k + 1) * 56) (by omega) (by omega) (by omega) hx e1.symm
theorem at_spell (at_ : Int) : ∃ a : Nat, a < 224 ∧ (wrap64 (at_.tmod 224 + 224)).tmod 224 = (a : Int) := by
  have h1 := Int.tmod_lt_of_pos at_ (show (0 : Int) < 224 by omega)
  have h2 := Int.lt_tmod_of_pos at_ (show (0 : Int) < 224 by omega)
  have h3 : wrap64 (at_.tmod 224 + 224) = at_.tmod 224 + 224 := IntWalk.wrap64_in _ ⟨by omega, by omega⟩
  rw [h3, Int.tmod_eq_emod_of_nonneg (by omega)]
  exact ⟨((at_.tmod 224 + 224) % 224).toNat, by omega, by omega⟩

set_option maxHeartbeats 2000000 in
theorem shares_core (body : ByteArray) (n : Nat) (at_ : Int) (w : World) (hb : body.size = 224) (hn : n < 18446744073709551616) (hlo : -9223372036854775808 ≤ at_) (hhi : at_ ≤ 9223372036854775807) :
    Calls Try.prog 5 #[.string body, .int .u64 n, .int .i64 at_] w fun e w' => e = .returned (.bool true) ∧ Below w.heap.size w w' := by
  obtain ⟨a, ha, hat⟩ := at_spell at_
  have c := fun w => seal_good body n w hb hn
  obtain ⟨F, CP, hF, hFp⟩ := bytes_of (P := Try.prog) 9 39 5 body Try.underlying9 Try.underlying39 Try.underlying5
  have hne : ((body.size : Int) != 224) = false := by simp [hb]
  have hxlt := UInt8.toNat_lt (body.data.toList.getD a 0)
  have hxor : bits .xor .u8 ((body.data.toList.getD a 0).toNat : Int) 255 = (((body.data.toList.getD a 0).toNat ^^^ 255 : Nat) : Int) := u8_xor_nat (body.data.toList.getD a 0).toNat 255 (by omega) (by omega)
  have hylt : (body.data.toList.getD a 0).toNat ^^^ 255 < 256 := Nat.xor_lt_two_pow (n := 8) (by omega) (by omega)
  have hyne : (body.data.toList.getD a 0) ≠ UInt8.ofNat ((body.data.toList.getD a 0).toNat ^^^ 255) := by
    intro e
    have e1 := congrArg UInt8.toNat e
    rw [UInt8.toNat_ofNat', Nat.mod_eq_of_lt hylt] at e1
    exact xor_all ⟨_, hxlt⟩ e1
  have ob : (flip body a (UInt8.ofNat ((body.data.toList.getD a 0).toNat ^^^ 255))).size = 224 := by rw [flip_size]; exact hb
  have d := fun w => seal_good (flip body a (UInt8.ofNat ((body.data.toList.getD a 0).toNat ^^^ 255))) n w ob hn
  -- what the two pages' sectors are
  have m8 : (Oct.str n 8).size = 8 := Oct.str_size _ _
  have f1 : ∀ k, k < 4 → (Fr.sec body (Oct.str n 8) k).size = 64 := fun k hk => Fr.sec_size hb m8 hk
  have f2 : ∀ k, k < 4 → (Fr.sec body (Oct.str n 8) k).extract 0 56 = body.extract (56 * k) (56 * k + 56) := fun k hk => by
    rw [Fr.sec_part hb hk, show k * 56 = 56 * k by omega, show (k + 1) * 56 = 56 * k + 56 by omega]
  have f3 : ∀ k, k < 4 → k ≠ a / 56 → Fr.sec (flip body a (UInt8.ofNat ((body.data.toList.getD a 0).toNat ^^^ 255))) (Oct.str n 8) k = Fr.sec body (Oct.str n 8) k := fun k _ hk => sec_far body _ a k _ hk
  have f4 : ∀ k, k < 4 → k = a / 56 → ((Fr.sec body (Oct.str n 8) k).toList == (Fr.sec (flip body a (UInt8.ofNat ((body.data.toList.getD a 0).toNat ^^^ 255))) (Oct.str n 8) k).toList) = false :=
    fun k hk h => str_ne (sec_near body _ a k _ hb ha hk h hyne)
  have hback : ∀ (wx : World) (g cp : Nat), (∀ j, j < 224 → wx.cell? ⟨g, j, none⟩ = some (.int .u8 ((if j = a then ((body.data.toList.getD a 0).toNat ^^^ 255) else (body.data.toList.getD j 0).toNat : Nat) : Int))) →
      (convert 39 9 (.slice (some ⟨g, 0, none⟩) 224 cp)).run Try.prog wx = .ok (.string (flip body a (UInt8.ofNat ((body.data.toList.getD a 0).toNat ^^^ 255)))) wx := by
    intro wx g cp hc
    have hl : (body.data.toList.set a (UInt8.ofNat ((body.data.toList.getD a 0).toNat ^^^ 255))).length = 224 := by
      rw [List.length_set]; simpa using hb
    have := run_convert_bytes_back (P := Try.prog) wx 39 9 5 ⟨g, 0, none⟩ cp (body.data.toList.set a (UInt8.ofNat ((body.data.toList.getD a 0).toNat ^^^ 255))) Try.underlying39 Try.underlying5 Try.underlying9 (fun j hj => by
      have hadd : (⟨g, 0, none⟩ : Addr).add j = ⟨g, j, none⟩ := by
        unfold Addr.add
        by_cases h : j = 0
        · subst h; simp
        · simp [h]
      rw [hadd, hc j (by omega)]
      rw [List.getElem_set]
      by_cases h : a = j
      · subst h
        simp only [if_true]
        rw [UInt8.toNat_ofNat', Nat.mod_eq_of_lt hylt]
      · rw [if_neg (fun e => h e.symm), if_neg h]
        have hjl : j < body.data.toList.length := by rw [List.length_set] at hj; exact hj
        simp only [List.getD, List.getElem?_eq_getElem hjl, Option.getD])
    rw [hl] at this
    exact this
  generalize hx0 : body.data.toList.getD a 0 = xb at *
  generalize hy : (xb.toNat ^^^ 255) = y at *
  have HX0 := Lib.hid hx0; clear hx0
  have C := Lib.hid c; have D := Lib.hid d; have HFP := Lib.hid hFp; have HBK := Lib.hid hback
  have F1 := Lib.hid f1; have F2 := Lib.hid f2; have F3 := Lib.hid f3; have F4 := Lib.hid f4
  rw [hb] at hF
  have hb' : 224 ≤ body.size := by omega
  have HB := Lib.hid hb
  clear c d hFp hback f1 f2 f3 f4 hn hb ob m8 hyne hy hxlt
  unfold Fr.sv at C D
  generalize Fr.sec body (Oct.str n 8) = S at *
  generalize flip body a (UInt8.ofNat y) = other at *
  generalize Fr.sec other (Oct.str n 8) = T at *
  go_enter Try.func5, Try.ntmps5
  go_wp2_with fail
  refine (awake_any _).mono ?_
  rintro e w1 ⟨rfl, hb1⟩
  go_wp2_with fail
  refine (C.out _).mono ?_
  rintro e w2 ⟨rfl, hb2⟩
  have hB2 := below_then hb1 hb2 hb1.size
  clear hb1 hb2
  have B3 := HFP.out (w2.alloc (.cells #[.string (S 0), .string (S 1), .string (S 2), .string (S 3)] 23))
  have q0 := B3.cell a (by have := HB.out; omega)
  rw [HX0.out] at q0
  have qf := B3.fz a (by have := HB.out; omega)
  have hrun := HBK.out ((F (w2.alloc (.cells #[.string (S 0), .string (S 1), .string (S 2), .string (S 3)] 23))).setCell ⟨w2.heap.size + 1, a, none⟩ (.int .u8 y)) (w2.heap.size + 1) (CP (w2.alloc (.cells #[.string (S 0), .string (S 1), .string (S 2), .string (S 3)] 23))) (by
    intro j hj
    by_cases h : j = a
    · subst h
      rw [if_pos rfl]
      have q1 := q0
      simp only [World.size_alloc] at q1
      exact World.cell?_setCell_same _ _ _ q1
    · rw [if_neg h, World.cell?_setCell_other _ _ _ _ (by intro e; injection e with _ e2 _; exact h e2.symm)]
      have := B3.cell j (by have := HB.out; omega)
      simp only [World.size_alloc] at this
      exact this)
  simp only [World.size_alloc] at q0 qf
  have hB3 : Below w.heap.size w (F (w2.alloc (.cells #[.string (S 0), .string (S 1), .string (S 2), .string (S 3)] 23))) := below_then (hB2.alloc hB2.size _) B3.below (by simp; have := hB2.size; omega)
  have gS : Bk (F (w2.alloc (.cells #[.string (S 0), .string (S 1), .string (S 2), .string (S 3)] 23))) w2.heap.size 23 (Fr.arr S) := (Bk.new w2 _ _).kept B3.below
  have hB4 := hB3.setCell (p := ⟨w2.heap.size + 1, a, none⟩) (by simp; have := hB2.size; omega) (.int .u8 y)
  have gS4 := gS.far (p := ⟨w2.heap.size + 1, a, none⟩) (by simp) (.int .u8 y)
  have HB4 := Lib.hid hB4; have GS4 := Lib.hid gS4
  clear B3 hB3 gS hB4 gS4 hB2 HFP HBK
  go_wp2_with fail
  refine (D.out _).mono ?_
  rintro e w5 ⟨rfl, hb5⟩
  have gS5 := GS4.out.kept hb5
  have hB5 := below_then HB4.out hb5 HB4.out.size
  have ls5 := gS5.lt
  clear hb5 GS4 HB4 q0 qf hrun hF hxor
  have gT6 : Bk (w5.alloc (.cells #[.string (T 0), .string (T 1), .string (T 2), .string (T 3)] 23)) w5.heap.size 23 (Fr.arr T) := Bk.new _ _ _
  have gS6 := gS5.alloc (.cells #[.string (T 0), .string (T 1), .string (T 2), .string (T 3)] 23)
  have hB6 := hB5.alloc hB5.size (.cells #[.string (T 0), .string (T 1), .string (T 2), .string (T 3)] 23)
  go_wp2
  generalize w5.alloc (.cells #[.string (T 0), .string (T 1), .string (T 2), .string (T 3)] 23) = w6 at gT6 gS6 hB6 ⊢
  go_loopw [56] (fun i wr => ∃ k : Nat, k ≤ 4 ∧ i = .int .i64 k ∧ Bk wr w2.heap.size 23 (Fr.arr S) ∧ Bk wr w5.heap.size 23 (Fr.arr T) ∧ Below w.heap.size w wr) (fun i _ => 4 - (intOf i).toNat)
  case atStart => exact ⟨0, Nat.zero_le _, rfl, gS6, gT6, hB6⟩
  case round =>
    clear gS6 gT6 hB6 gS5 hB5
    obtain ⟨k, hk, rfl, gS, gT, hB⟩ := hrel
    by_cases hlt : k < 4
    · have c1 := gS.cell k
      have c2 := gT.cell k
      rw [Fr.arr_get _ k hlt] at c1 c2
      have e1 := F1.out k hlt
      have e2 := F2.out k hlt
      have h64 : (((S k).size : Int) != 64) = false := by simp [e1]
      have h56 : 56 ≤ (S k).size := by omega
      have h224 : 56 * k + 56 ≤ body.size := by omega
      have GS := Lib.hid gS; have GT := Lib.hid gT; have HBL := Lib.hid hB; clear gS gT hB e1
      by_cases hka : k = a / 56
      · have hne := F4.out k hlt hka
        have hq : ((k : Int) == (a : Int) / 56) = true := by simp; omega
        clear hka
        go_wp2_with fail
        go_quiet (fail)
        go_wp2
        go_roundw
        case rel => exact ⟨k + 1, by omega, by go_num, GS.out, GT.out, below_drewN HBL.out _⟩
        case measure => simp [intOf]; omega
      · have heq := F3.out k hlt hka
        rw [heq] at c2
        have hq : ((k : Int) == (a : Int) / 56) = false := by simp; omega
        clear hka heq
        go_wp2_with fail
        go_quiet (fail)
        go_wp2
        go_roundw
        case rel => exact ⟨k + 1, by omega, by go_num, GS.out, GT.out, below_drewN HBL.out _⟩
        case measure => simp [intOf]; omega
    · go_wp2
      go_ret
      exact ⟨rfl, hB⟩

theorem walk_FrameShares (body : ByteArray) (stamp at_ : Int) (w : World) (hb : body.size ≤ maxLen) (h0 : 0 ≤ stamp) (h1 : stamp ≤ 18446744073709551615) (hlo : -9223372036854775808 ≤ at_) (hhi : at_ ≤ 9223372036854775807) :
    Calls Try.prog 5 #[.string body, .int .u64 stamp, .int .i64 at_] w fun e w' => e = .returned (.bool true) ∧ Below w.heap.size w w' := by
  obtain ⟨n, rfl⟩ := Int.eq_ofNat_of_zero_le h0
  by_cases h : body.size = 224
  · exact shares_core body n at_ w h (by omega) hlo hhi
  · have c := fun w => seal_bad body n w h
    have hne : ((body.size : Int) != 224) = true := by simp; omega
    have heq := fun w => eql4 Fr.nils Fr.nils w
    simp only [Fr.nils, beq_self_eq_true, Bool.and_self] at heq
    unfold Fr.sv Fr.nils at c
    have C := Lib.hid c; clear c h h0 h1 hlo hhi hb
    go_enter Try.func5, Try.ntmps5
    go_wp2_with fail
    refine (awake_any _).mono ?_
    rintro e w1 ⟨rfl, hb1⟩
    go_wp2_with fail
    refine (C.out _).mono ?_
    rintro e w2 ⟨rfl, hb2⟩
    have hB2 := below_then hb1 hb2 hb1.size
    clear hb1 hb2
    have hB3 := hB2.alloc hB2.size (.cells #[.string ⟨#[]⟩, .string ⟨#[]⟩, .string ⟨#[]⟩, .string ⟨#[]⟩] 23)
    have HB3 := Lib.hid hB3; clear hB3 hB2
    go_wp2
    go_outline
    go_ret
    exact ⟨rfl, HB3.out⟩

end Go.Proofs.Ytflfighlilogpaa
