/- The walks of package disk: over, New; of the law's helpers. -/
import Derived.Test.YtplcddcdhnjfeaaDskWalk3
set_option linter.unusedVariables false
set_option linter.unusedSimpArgs false
namespace Go.Proofs.Ytplcddcdhnjfeaa
open Go.RowKit

theorem Try.info5' : (Try.prog.info? 5).map (fun i => (i.zero, i.size, i.bytes)) = some (some (.int .u8 0), 1, 1) := by kernel_rfl

def Dsk.barrier (S : Dsk) : Dsk × Int := if S.down = true then (S, 20) else if S.fuel = 0 then ({ S with down := true }, 20) else (S.synced, 0)
theorem barrier_any {w : World} {B : Nat} {I : Ids} {S : Dsk} (h : Dk w B I S) :
    Calls Try.prog 29 #[I.ptr] w fun e w' => e = .returned (.int .i64 S.barrier.2) ∧ ∃ p', Dk w' B (I.with p') S.barrier.1 ∧ Out w w' I.foot := by
  unfold Dsk.barrier
  obtain ⟨c0, c1, c2, c3, c4⟩ := h.cells
  rcases hd : S.down with _ | _
  · rw [if_neg (by simp)]
    by_cases hf : S.fuel = 0
    · rw [if_pos hf]
      have b := burn_out h hf
      rw [hd] at c4
      have BU := Lib.hid b
      clear h b hf hd
      unfold Ids.ptr at BU ⊢
      go_enter Try.func29, Try.ntmps29
      go_wp2_with fail
      refine BU.out.mono ?_
      rintro e w1 ⟨rfl, h1, ho1⟩
      have H1 := Lib.hid h1; have HO1 := Lib.hid ho1; clear h1 ho1
      go_wp2
      go_ret
      exact ⟨rfl, I.p, H1.out, HO1.out⟩
    · rw [if_neg hf]
      refine (barrier_good h hd hf).mono ?_
      rintro e w1 ⟨he, h1, h2⟩
      exact ⟨he, _, h1, h2⟩
  · rw [if_pos rfl]
    rw [hd] at c4
    have H := Lib.hid h
    clear h hd
    unfold Ids.ptr
    go_enter Try.func29, Try.ntmps29
    go_wp2
    go_ret
    exact ⟨rfl, I.p, H.out, Out.refl _ _⟩

/-- A sector's bytes, or some that are none. -/
def pad (s : ByteArray) : ByteArray := if 64 < s.size ∨ s.size = 63 then s else s ++ Fr.zs (64 - s.size)
/-- A device as it is new. -/
def Dsk.start (zs : List ByteArray) : Dsk := ⟨zs, zs, [], -1, false⟩
theorem start_ok {zs : List ByteArray} (h1 : 1 ≤ zs.length) (h2 : zs.length ≤ 16384) (hs : ∀ i, i < zs.length → (zs.getD i ⟨#[]⟩).size = 64) : (Dsk.start zs).ok :=
  ⟨rfl, h1, h2, fun p hp => by simp [Dsk.start] at hp, by show (-1 : Int) ≤ -1; omega, by show (-1 : Int) ≤ 9223372036854775807; omega, hs, hs, fun p hp => by simp [Dsk.start] at hp⟩
set_option maxHeartbeats 1000000 in
theorem over_any (w : World) (B f fc : Nat) (zs : List ByteArray) (hf : Rw w f 9 (zs.map .string)) (h1 : 1 ≤ zs.length) (h2 : zs.length ≤ 16384) (hs : ∀ i, i < zs.length → (zs.getD i ⟨#[]⟩).size = 64) (hB : B ≤ f) :
    Calls Try.prog 24 #[.slice (some ⟨f, 0, none⟩) zs.length fc] w fun e w' => ∃ I : Ids, e = .returned I.ptr ∧ I.f = f ∧ Dk w' B I (.start zs) ∧ Below w.heap.size w w' ∧ w.heap.size ≤ I.g ∧ w.heap.size ≤ I.n ∧ I.p = .slice none 0 0 := by
  have c := clone_any f zs.length fc zs w rfl (by omega) (fun j hj => by
    rw [hf.cell (i := j) (by simpa using hj), List.getElem?_map, List.getD_eq_getElem?_getD, List.getElem?_eq_getElem hj]; rfl)
  have C := Lib.hid c; have HF := Lib.hid hf; have HS := Lib.hid hs
  clear c hf hs
  go_enter Try.func24, Try.ntmps24
  go_wp2_with fail
  refine C.out.mono ?_
  rintro e w1 ⟨v', rfl, hown, hne, hb⟩
  obtain ⟨n, nc, cur, rfl, hn, hh, hle, hm, hcs, ht⟩ : ∃ g cap cur, v' = .slice (some ⟨g, 0, none⟩) zs.length cap ∧ w.heap.size ≤ g ∧ w1.heap[g]? = some (.cells cur 9 (0, 0)) ∧ zs.length ≤ cap ∧ cap ≤ maxLen ∧ cur.size = cap * 1 ∧ cur.toList.take (zs.length * 1) = zs.map .string := by
    rcases hown.2 with ⟨_, e⟩ | h
    · omega
    · exact h
  have hlt := HF.out.lt
  have f1 : Rw (w1.alloc (.cells (Ids.box ⟨w1.heap.size, f, n, fc, nc, .slice none 0 0⟩ (.start zs)) 70)) f 9 (zs.map .string) := (HF.out.kept hb).alloc _
  have n1 : Rw (w1.alloc (.cells (Ids.box ⟨w1.heap.size, f, n, fc, nc, .slice none 0 0⟩ (.start zs)) 70)) n 9 (zs.map .string) := Rw.alloc ⟨cur, hh, by simpa using ht⟩ _
  have hD : Dk (w1.alloc (.cells (Ids.box ⟨w1.heap.size, f, n, fc, nc, .slice none 0 0⟩ (.start zs)) 70)) B ⟨w1.heap.size, f, n, fc, nc, .slice none 0 0⟩ (.start zs) :=
    ⟨Bk.new _ _ _, f1, n1, World.ownsRow_nil _ _ _ _, by show f ≠ n; omega, by show B ≤ w1.heap.size; have := hb.size; omega, hB, by show B ≤ n; omega, start_ok h1 h2 HS.out⟩
  have hB1 : Below w.heap.size w (w1.alloc (.cells (Ids.box ⟨w1.heap.size, f, n, fc, nc, .slice none 0 0⟩ (.start zs)) 70)) := hb.alloc hb.size _
  have HD := Lib.hid hD; have HB1 := Lib.hid hB1; have HSZ := Lib.hid hb.size
  clear f1 n1 hD hB1 hown hne hb hh ht
  go_wp2
  go_ret
  exact ⟨⟨w1.heap.size, f, n, fc, nc, .slice none 0 0⟩, rfl, rfl, HD.out, HB1.out, HSZ.out, hn, rfl⟩

def blanks (k : Nat) : List ByteArray := List.replicate k (Fr.zs 64)
set_option maxHeartbeats 1000000 in
theorem new_good (k : Nat) (w : World) (h1 : 1 ≤ k) (h2 : k ≤ 16384) :
    Calls Try.prog 9 #[.int .i64 k] w fun e w' => ∃ I : Ids, e = .returned (.tuple #[I.ptr, .int .i64 0]) ∧ Dk w' w.heap.size I (.start (blanks k)) ∧ Below w.heap.size w w' := by
  obtain ⟨i0, hi, hz0, hz1, hz2⟩ := info_parts Try.info5'
  have hmk := fun wx => run_make (P := Try.prog) wx 59 5 i0 (.int .u8 0) Try.underlying59 hi hz0 .i64 .i64 64 64 (by omega) (by omega) (by rw [hz2]; omega) (by omega)
  simp only [hz1, Nat.mul_one, Value.cells, show (64 : Int).toNat = 64 from rfl, show madeCells #[Value.int .u8 0] 64 = Fr.zc 64 from rfl] at hmk
  clear hi hz0 hz1 hz2
  have hst := fun wx => Fr.run_zeros (P := Try.prog) wx 59 9 5 64 Try.underlying59 Try.underlying5 Try.underlying9
  have z64 : (Fr.zs 64).size = 64 := Fr.zs_size 64
  unfold blanks
  generalize Fr.zs 64 = z at *
  go_enter Try.func9, Try.ntmps9
  go_wp2_with fail
  refine (repeat_any (w.heap.size + 1) z k _ h1 h2 ((Bk.new2 w (.cells (Fr.zc 64) 5) 9 #[.string z]).cell 0)).mono ?_
  rintro e w1 ⟨rfl, hbk, hb⟩
  have hB1 : Below w.heap.size w w1 := below_then (((Below.refl _ _).alloc (Nat.le_refl _) _).alloc (by simp) _) hb (by simp; omega)
  have hr : Rw w1 ((w.alloc (.cells (Fr.zc 64) 5)).alloc (.cells #[.string z] 9)).heap.size 9 ((List.replicate k z).map .string) := ⟨_, hbk, by simp [rp]⟩
  have o := over_any w1 w.heap.size _ k (List.replicate k z) hr (by simpa using h1) (by simpa using h2) (fun i hi => by rw [List.getD_eq_getElem?_getD, List.getElem?_eq_getElem hi]; simpa using z64) (by simp; omega)
  rw [List.length_replicate] at o
  simp only [World.size_alloc] at o
  have O := Lib.hid o; have HB1 := Lib.hid hB1
  clear o hr hbk hb hB1
  go_wp2_with fail
  refine O.out.mono ?_
  rintro e w2 ⟨I, rfl, _, hd, hb2, _⟩
  have HD := Lib.hid hd; have HB2 := Lib.hid (below_then HB1.out hb2 HB1.out.size); clear hd hb2
  unfold Ids.ptr
  go_wp2
  go_ret2
  exact ⟨I, rfl, HD.out, HB2.out⟩
theorem new_bad (k : Int) (w : World) (h : k < 1 ∨ 16384 < k) :
    Calls Try.prog 9 #[.int .i64 k] w fun e w' => e = .returned (.tuple #[.pointer none, .int .i64 1]) ∧ w' = w := by
  rcases h with h | h
  all_goals
    go_enter Try.func9, Try.ntmps9
    go_wp2
    go_ret2
    exact ⟨rfl, rfl⟩
end Go.Proofs.Ytplcddcdhnjfeaa
