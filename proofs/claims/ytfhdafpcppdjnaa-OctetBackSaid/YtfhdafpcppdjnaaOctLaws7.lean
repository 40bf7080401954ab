/- The walk of OctetBack. -/
import Derived.Test.YtfhdafpcppdjnaaOctLaws1
import Derived.Test.YtfhdafpcppdjnaaOctBackPlain
import Derived.Test.YtfhdafpcppdjnaaRead
set_option linter.unusedVariables false
set_option linter.unusedSimpArgs false
namespace Go.Proofs.Ytfhdafpcppdjnaa
open Go.RowKit Go.ChangeShapes Go.WideShapes Go.ChangeAt Go.Deep

/-- A slice of numbers of 64 bits. -/
def IsU64s (w : World) (v : Value) (q : Slq) : Prop := IsSl w v 1 q ∧ ∃ z : Nat → Nat, ∀ i, i < q.len → q.f i 0 = .int .u64 (z i : Nat) ∧ z i < 18446744073709551616
theorem read_u64s {H : Type} {enc : TypeId × Value → H} {w : World} {base : Nat} {held : Bool} {r : Reach} {b0 : Nat} {d : DataW H} {p : List MemPlace} {v : Value}
    (hv : Value.okWide Try.prog w r b0 53 v) (h : DataW.Trod enc Try.prog w base (fun _ => true) held 53 v d p) : ∃ q, IsU64s w v q ∧ SzOf d q.cap := by
  obtain ⟨q, hq, hz, hf⟩ := read_cells Try.underlying53 (by kernel_rfl) hv h
  have hk : ∀ i, ∃ n : Nat, i < q.len → q.f i 0 = .int .u64 (n : Nat) ∧ n < 18446744073709551616 := by
    intro i
    by_cases hi : i < q.len
    · obtain ⟨n, y, h0⟩ := hf i hi
      obtain ⟨k, hk, _, hw⟩ := DataW.trod_int Try.underlying22 h0
      have hb : 0 ≤ k ∧ k ≤ 18446744073709551615 := by simpa [Lit.wf, IntKind.min, IntKind.max, IntKind.signed, IntKind.bits] using hw
      obtain ⟨m, rfl⟩ := Int.eq_ofNat_of_zero_le hb.1
      exact ⟨m, fun _ => ⟨by simpa using hk, by omega⟩⟩
    · exact ⟨0, fun h => absurd h hi⟩
  exact ⟨q, ⟨hq, fun i => (hk i).choose, fun i => (hk i).choose_spec⟩, hz⟩
/-- A slice of texts. -/
def IsStrs (w : World) (v : Value) (q : Slq) : Prop := IsSl w v 1 q ∧ ∃ s : Nat → ByteArray, ∀ i, i < q.len → q.f i 0 = .string (s i) ∧ (s i).size ≤ maxLen
theorem read_strs {H : Type} {enc : TypeId × Value → H} {w : World} {base : Nat} {held : Bool} {r : Reach} {b0 : Nat} {d : DataW H} {p : List MemPlace} {v : Value}
    (hv : Value.okWide Try.prog w r b0 54 v) (h : DataW.Trod enc Try.prog w base (fun _ => true) held 54 v d p) : ∃ q, IsStrs w v q ∧ SzOf d q.cap := by
  obtain ⟨q, hq, hz, hf⟩ := read_cells Try.underlying54 (by kernel_rfl) hv h
  have hk : ∀ i, ∃ s : ByteArray, i < q.len → q.f i 0 = .string s ∧ s.size ≤ maxLen := by
    intro i
    by_cases hi : i < q.len
    · obtain ⟨n, y, h0⟩ := hf i hi
      obtain ⟨s, hs, _, hw⟩ := DataW.trod_string Try.underlying9 h0
      exact ⟨s, fun _ => ⟨by simpa using hs, hw⟩⟩
    · exact ⟨⟨#[]⟩, fun h => absurd h hi⟩
  exact ⟨q, ⟨hq, fun i => (hk i).choose, fun i => (hk i).choose_spec⟩, hz⟩

theorem shl_spell (k : Nat) (h : k % 8 + 1 < 8) : IntKind.u64.wrap (2 ^ (8 * ((k : Int) % 8 + 1)).toNat) = ((Oct.pw k : Nat) : Int) := by
  have e : (8 * ((k : Int) % 8 + 1)).toNat = 8 * (k % 8 + 1) := by omega
  have h3 : ((2 : Int) ^ (8 * (k % 8 + 1))) = ((256 ^ (k % 8 + 1) : Nat) : Int) := by
    rw [Int.pow_mul]; norm_cast
  have h4 := Oct.pow8_le (k % 8 + 2) (by omega)
  rw [show k % 8 + 2 = (k % 8 + 1) + 1 by omega, Nat.pow_succ] at h4
  rw [e, h3, IntKind.wrap_u64]
  unfold Oct.pw Oct.wd
  omega

set_option maxRecDepth 100000 in
set_option maxHeartbeats 2000000 in
theorem walk_OctetBack (v : Value) (q : Slq) (v' : Value) (q' : Slq) (w : World) (hq : IsU64s w v q) (hr : q.cap * 8 ≤ 140737488351232) (hq' : IsStrs w v' q') (hr' : q'.cap * 16 ≤ 140737488351232) :
    Calls Try.prog 5 #[v, v'] w fun e w' => e = .returned (.bool true) ∧ Below w.heap.size w w' := by
  obtain ⟨hq, z, hz⟩ := hq
  obtain ⟨A, len, cap, f⟩ := q
  obtain ⟨rfl, hle, _, hat⟩ := hq
  obtain ⟨hq', s, hs⟩ := hq'
  obtain ⟨A', len', cap', f'⟩ := q'
  obtain ⟨rfl, hle', _, hat'⟩ := hq'
  simp only at hle hat hz hr hle' hat' hs hr'
  have hlen : len ≤ 17592186043904 := by omega
  have hlen' : len' ≤ 8796093021952 := by omega
  clear hle hle' hr hr'
  have HZ := Lib.hid hz; have HAT := Lib.hid hat; have HS := Lib.hid hs; have HAT' := Lib.hid hat'
  clear hz hat hs hat'
  have hpz := fun n => Oct.catTo_size (Oct.pc z) 8 (Oct.pc_size z) n
  have hcs : ∀ k, k < len → ∀ w : World, Calls Try.prog 10 #[.int .u64 (Oct.nm z k : Nat), .int .i64 ((k : Int) % 8 + 1)] w fun e w' => e = .returned (.tuple #[.string (Oct.pc z k), .int .i64 0]) ∧ Below w.heap.size w w' := by
    intro k hk w
    have hwd := Oct.wd_bd k
    have hzk := (HZ.out k hk).2
    have e : ((k : Int) % 8 + 1) = ((Oct.wd k : Nat) : Int) := by unfold Oct.wd; omega
    have hb := Oct.nm_lt64 z k hzk
    rw [e]
    exact num_fits' (Oct.nm z k : Nat) (Oct.wd k : Nat) w (by omega) (by omega) (by omega) (by omega) (Oct.nm_rest z k hzk)
  have hcv : ∀ k, k < len → ∀ w : World, Calls Try.prog 12 #[.string (Oct.pc z k)] w fun e w' => e = .returned (.tuple #[.int .u64 (Oct.nm z k : Nat), .int .i64 0]) ∧ Below w.heap.size w w' := by
    intro k hk w
    have hwd := Oct.wd_bd k
    have hs : (Oct.pc z k).size = Oct.wd k := Oct.str_size _ _
    have hv : Oct.sval (Oct.pc z k) = Oct.nm z k := Oct.sval_str _ _ (Oct.nm_lt z k (HZ.out k hk).2)
    have := val_good (Oct.pc z k) w (by omega) (by omega)
    rw [hv] at this
    exact this
  have HPZ := Lib.hid hpz; have HCS := Lib.hid hcs; have HCV := Lib.hid hcv; clear hpz hcs hcv
  go_enter Try.func5, Try.ntmps5
  go_wp2_with fail
  refine (awake_any _).mono ?_
  rintro e w0 ⟨rfl, hb0⟩
  go_wp2
  go_loopw [5, 27] (fun a i wr => ∃ k : Nat, k ≤ len ∧ i = .int .i64 k ∧ a = .string (Oct.catTo (Oct.pc z) k) ∧ Below w.heap.size w wr) (fun _ i _ => len - (intOf i).toNat)
  case atStart => exact ⟨0, Nat.zero_le _, rfl, rfl, hb0⟩
  case round =>
    obtain ⟨k, hk, rfl, rfl, hbel⟩ := hrel
    clear hb0
    by_cases hlt : k < len
    · obtain ⟨b, off, rfl, hbw, hcells⟩ := HAT.out (by omega)
      obtain ⟨e0, hzk⟩ := HZ.out k hlt
      have q0 := hbel.cell (p := ⟨b, off + (k * 1 + 0), none⟩) hbw
      rw [hcells k 0 hlt (by omega), e0] at q0
      simp only [Nat.add_zero, Nat.mul_one] at q0
      have cs := HCS.out k hlt
      have cv := HCV.out k hlt
      have CS := Lib.hid cs; have CV := Lib.hid cv; clear cs cv hcells e0 hzk
      have hmax : (Oct.catTo (Oct.pc z) k).size + (Oct.pc z k).size ≤ 9223372036854775807 := by
        have a1 := HPZ.out k
        have a2 := Oct.pc_size z k
        omega
      by_cases hw8 : k % 8 + 1 < 8
      · have hsh := shl_spell k hw8
        have hnm := Oct.nm_small z k hw8
        have hpos := Oct.pw_pos k
        go_wp2_with fail
        refine (CS.out _).mono ?_
        rintro e w1 ⟨rfl, hb1⟩
        go_wp2_with fail
        refine (CV.out _).mono ?_
        rintro e w2 ⟨rfl, hb2⟩
        have hb12 := below_then (below_then hbel hb1 hbel.size) hb2 (below_then hbel hb1 hbel.size).size
        clear hb1 hb2 hbel
        go_wp2
        go_roundw
        case rel => exact ⟨k + 1, by omega, by go_num, rfl, hb12⟩
        case measure => simp [intOf]; omega
      · have hnm := Oct.nm_full z k hw8
        rw [hnm] at CS CV
        clear hnm
        go_wp2_with fail
        refine (CS.out _).mono ?_
        rintro e w1 ⟨rfl, hb1⟩
        go_wp2_with fail
        refine (CV.out _).mono ?_
        rintro e w2 ⟨rfl, hb2⟩
        have hb12 := below_then (below_then hbel hb1 hbel.size) hb2 (below_then hbel hb1 hbel.size).size
        clear hb1 hb2 hbel
        go_wp2
        go_roundw
        case rel => exact ⟨k + 1, by omega, by go_num, rfl, hb12⟩
        case measure => simp [intOf]; omega
    · obtain rfl : len = k := by omega
      obtain ⟨wo, rfl⟩ : ∃ wo : World, wo = wr := ⟨_, rfl⟩
      go_wp2
      go_loopw [5, 70] (fun a i wr => ∃ k : Nat, k ≤ len' ∧ i = .int .i64 k ∧ a = .string (Oct.catTo (Oct.pc z) len ++ Oct.catTo (Oct.tx s) k) ∧ (∀ j, j < k → (s j).size ≤ 255) ∧ Below w.heap.size w wr) (fun _ i _ => len' - (intOf i).toNat)
      case atStart => exact ⟨0, Nat.zero_le _, rfl, by rw [show Oct.catTo (Oct.tx s) 0 = ⟨#[]⟩ from rfl, Oct.app_nil], fun j hj => absurd hj (Nat.not_lt_zero j), hbel⟩
      case round =>
        clear hbel
        obtain ⟨k, hk, rfl, rfl, hall, hbel⟩ := hrel
        have hsmall : (Oct.catTo (Oct.pc z) len ++ Oct.catTo (Oct.tx s) k).size ≤ len * 8 + k * 256 := by
          have a1 := HPZ.out len
          have a2 := Oct.tx_size s k hall
          rw [ByteArray.size_append]; omega
        have HALL := Lib.hid hall; clear hall
        by_cases hlt : k < len'
        · obtain ⟨b, off, rfl, hbw, hcells⟩ := HAT'.out (by omega)
          obtain ⟨e0, hsk⟩ := HS.out k hlt
          have q0 := hbel.cell (p := ⟨b, off + (k * 1 + 0), none⟩) hbw
          rw [hcells k 0 hlt (by omega), e0] at q0
          simp only [Nat.add_zero, Nat.mul_one] at q0
          unfold maxLen at hsk
          clear hcells e0
          by_cases h255 : (s k).size ≤ 255
          · have hmax : (Oct.catTo (Oct.pc z) len ++ Oct.catTo (Oct.tx s) k).size + (Oct.tx s k).size ≤ 9223372036854775807 := by
              have h3 : (Oct.tx s k).size = (s k).size + 1 := Oct.text_size (s k)
              omega
            have ct := fun w => text_fits (s k) w h255
            rw [show Oct.text (s k) = Oct.tx s k from rfl] at ct
            have CT := Lib.hid ct
            have hall2 : ∀ j, j < k + 1 → (s j).size ≤ 255 := by
              intro j hj
              by_cases e : j = k
              · subst e; exact h255
              · exact HALL.out j (by omega)
            have HALL2 := Lib.hid hall2
            clear ct hall2 hsmall HALL h255
            go_wp2_with fail
            refine (CT.out _).mono ?_
            rintro e w1 ⟨rfl, hb1⟩
            have hb2 := below_then hbel hb1 hbel.size
            clear hb1 hbel
            go_wp2
            go_roundw
            case rel => exact ⟨k + 1, by omega, by go_num, by rw [show Oct.catTo (Oct.tx s) (k + 1) = Oct.catTo (Oct.tx s) k ++ Oct.tx s k from rfl, ByteArray.append_assoc], HALL2.out, hb2⟩
            case measure => simp [intOf]; omega
          · have hgt : 255 < (s k).size := by omega
            have hd : decide (255 < ((s k).size : Int)) = true := by simp; omega
            clear h255 HALL hsmall
            go_wp2_with fail
            refine (text_long (s k) _ hgt).mono ?_
            rintro e w1 ⟨rfl, hb1⟩
            go_wp2
            go_ret
            exact ⟨rfl, below_then hbel hb1 hbel.size⟩
        · obtain rfl : len' = k := by omega
          have hT := Oct.tx_size s len' HALL.out
          rw [Oct.leftN_start]
          have hNs := fun k => Oct.leftN_size z s len len' k
          have hTs := fun k hk => Oct.leftT_size s len' k hk
          have HNS := Lib.hid hNs; have HTS := Lib.hid hTs; have HT := Lib.hid hT; clear hNs hTs hT hsmall
          obtain ⟨wp, rfl⟩ : ∃ wp : World, wp = wr := ⟨_, rfl⟩
          go_wp2_with fail
          refine (rd_read _ _).mono ?_
          rintro e w1 ⟨rfl, ha1, hb1, hl1⟩
          have hB1 : Below w.heap.size w w1 := below_then hbel hb1 hbel.size
          have hg : w.heap.size ≤ wp.heap.size := hbel.size
          generalize wp.heap.size = g at ha1 hg ⊢
          have HA1 := Lib.hid ha1; clear ha1 hbel hb1 hl1
          go_wp2
          go_loopw [92] (fun i wr => ∃ k : Nat, k ≤ len ∧ i = .int .i64 k ∧ RdSt wr g (some (Oct.leftN z s len len' k)) ∧ Below w.heap.size w wr) (fun i _ => len - (intOf i).toNat)
          case atStart => exact ⟨0, Nat.zero_le _, rfl, HA1.out, hB1⟩
          case round =>
            clear hB1 HA1
            obtain ⟨k, hk, rfl, hrd, hbel⟩ := hrel
            by_cases hlt : k < len
            · obtain ⟨b, off, rfl, hbw, hcells⟩ := HAT.out (by omega)
              obtain ⟨e0, hzk⟩ := HZ.out k hlt
              have q0 := hbel.cell (p := ⟨b, off + (k * 1 + 0), none⟩) hbw
              rw [hcells k 0 hlt (by omega), e0] at q0
              simp only [Nat.add_zero, Nat.mul_one] at q0
              have cr := rd_num g ((k : Int) % 8 + 1) (some (Oct.leftN z s len len' k)) wr hrd (by
                have a1 := HNS.out k
                have a2 := HT.out
                show (Oct.leftN z s len len' k).size ≤ maxLen
                unfold maxLen; omega)
              rw [show ((k : Int) % 8 + 1) = ((Oct.wd k : Nat) : Int) by unfold Oct.wd; omega, Oct.leftN_read z s len len' k hlt hzk, show ((Oct.wd k : Nat) : Int) = ((k : Int) % 8 + 1) by unfold Oct.wd; omega] at cr
              simp only at cr
              have CR := Lib.hid cr; clear cr hcells e0 hzk hrd
              by_cases hw8 : k % 8 + 1 < 8
              · have hsh := shl_spell k hw8
                have hnm := Oct.nm_small z k hw8
                have hpos := Oct.pw_pos k
                go_wp2_with fail
                refine CR.out.mono ?_
                rintro e w1 ⟨rfl, hr1, hg1⟩
                have hB2 : Below w.heap.size w w1 := hbel.grown hg1 hbel.size (by simp; omega)
                have HR1 := Lib.hid hr1; clear hr1 hg1 hbel
                go_wp2
                go_roundw
                case rel => exact ⟨k + 1, by omega, by go_num, HR1.out, hB2⟩
                case measure => simp [intOf]; omega
              · have hnm := Oct.nm_full z k hw8
                rw [hnm] at CR
                clear hnm
                go_wp2_with fail
                refine CR.out.mono ?_
                rintro e w1 ⟨rfl, hr1, hg1⟩
                have hB2 : Below w.heap.size w w1 := hbel.grown hg1 hbel.size (by simp; omega)
                have HR1 := Lib.hid hr1; clear hr1 hg1 hbel
                go_wp2
                go_roundw
                case rel => exact ⟨k + 1, by omega, by go_num, HR1.out, hB2⟩
                case measure => simp [intOf]; omega
            · obtain rfl : len = k := by omega
              rw [Oct.leftN_end] at hrd
              obtain ⟨wq, rfl⟩ : ∃ wq : World, wq = wr := ⟨_, rfl⟩
              have HRD := Lib.hid hrd; clear hrd
              go_wp2
              go_loopw [115] (fun i wr => ∃ k : Nat, k ≤ len' ∧ i = .int .i64 k ∧ RdSt wr g (some (Oct.leftT s len' k)) ∧ Below w.heap.size w wr) (fun i _ => len' - (intOf i).toNat)
              case atStart => exact ⟨0, Nat.zero_le _, rfl, HRD.out, hbel⟩
              case round =>
                clear hbel HRD
                obtain ⟨k, hk, rfl, hrd, hbel⟩ := hrel
                by_cases hlt : k < len'
                · obtain ⟨b, off, rfl, hbw, hcells⟩ := HAT'.out (by omega)
                  obtain ⟨e0, hsk⟩ := HS.out k hlt
                  have q0 := hbel.cell (p := ⟨b, off + (k * 1 + 0), none⟩) hbw
                  rw [hcells k 0 hlt (by omega), e0] at q0
                  simp only [Nat.add_zero, Nat.mul_one] at q0
                  have cr := rd_text g (some (Oct.leftT s len' k)) wr hrd (by
                    have a1 := HTS.out k hk
                    have a2 := HT.out
                    show (Oct.leftT s len' k).size ≤ maxLen
                    unfold maxLen; omega)
                  rw [Oct.leftT_read s len' k hlt (HALL.out k hlt)] at cr
                  simp only at cr
                  have CR := Lib.hid cr; clear cr hcells e0 hsk hrd
                  go_wp2_with fail
                  refine CR.out.mono ?_
                  rintro e w1 ⟨rfl, hr1, hg1⟩
                  have hB2 : Below w.heap.size w w1 := hbel.grown hg1 hbel.size (by simp; omega)
                  have HR1 := Lib.hid hr1; clear hr1 hg1 hbel
                  go_wp2
                  go_roundw
                  case rel => exact ⟨k + 1, by omega, by go_num, HR1.out, hB2⟩
                  case measure => simp [intOf]; omega
                · obtain rfl : len' = k := by omega
                  rw [Oct.leftT_end] at hrd
                  have HRD := Lib.hid hrd; clear hrd
                  go_wp2_with fail
                  refine (rd_isbad g _ _ HRD.out).mono ?_
                  rintro e w' ⟨rfl, rfl⟩
                  go_wp2_with fail
                  refine (rd_left g _ _ HRD.out).mono ?_
                  rintro e w' ⟨rfl, rfl⟩
                  go_wp2
                  go_ret
                  exact ⟨rfl, hbel⟩

end Go.Proofs.Ytfhdafpcppdjnaa
