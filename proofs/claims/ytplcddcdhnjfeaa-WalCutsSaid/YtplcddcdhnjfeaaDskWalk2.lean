/- The walks of package disk: Read, Write. -/
import Derived.Test.YtplcddcdhnjfeaaDskWalk
import Derived.Test.YtplcddcdhnjfeaaApp1
set_option linter.unusedVariables false
set_option linter.unusedSimpArgs false
namespace Go.Proofs.Ytplcddcdhnjfeaa
open Go.RowKit

def Dsk.read (S : Dsk) (i : Int) : ByteArray × Int := if S.down = true then (⟨#[]⟩, 20) else if 0 ≤ i ∧ i < S.firm.length then (S.now.getD i.toNat ⟨#[]⟩, 0) else (⟨#[]⟩, 1)
theorem now_get {S : Dsk} (h : S.ok) (k : Nat) (hk : k < S.firm.length) : (S.now.map Value.string)[k]? = some (.string (S.now.getD k ⟨#[]⟩)) := by
  have hl : k < S.now.length := by rw [h.len]; exact hk
  rw [List.getElem?_map, List.getD_eq_getElem?_getD, List.getElem?_eq_getElem hl]
  rfl
theorem read_any {w : World} {B : Nat} {I : Ids} {S : Dsk} (h : Dk w B I S) (i : Int) :
    Calls Try.prog 23 #[I.ptr, .int .i64 i] w fun e w' => e = .returned (.tuple #[.string (S.read i).1, .int .i64 (S.read i).2]) ∧ w' = w := by
  obtain ⟨c0, c1, c2, c3, c4⟩ := h.cells
  unfold Dsk.read
  rcases hd : S.down with _ | _
  · rw [hd] at c4
    have c := has_any h i
    by_cases hi : 0 ≤ i ∧ i < S.firm.length
    · rw [if_neg (by simp), if_pos hi]
      obtain ⟨k, rfl⟩ := Int.eq_ofNat_of_zero_le hi.1
      have hk : k < S.firm.length := by omega
      rw [decide_eq_true hi] at c
      have n0 := h.now.cell (i := k) (by rw [List.length_map, h.ok.len]; exact hk)
      rw [now_get h.ok k hk] at n0
      rw [h.ok.len] at c1
      have C := Lib.hid c
      clear h c hi hd
      unfold Ids.ptr at C ⊢
      simp only [Int.toNat_natCast]
      go_enter Try.func23, Try.ntmps23
      go_wp2_with fail
      refine C.out.mono ?_
      rintro e w1 ⟨rfl, hw⟩
      subst w1
      go_wp2
      go_ret2
      exact ⟨rfl, rfl⟩
    · rw [if_neg (by simp), if_neg hi]
      rw [decide_eq_false hi] at c
      have C := Lib.hid c
      clear h c hi hd
      unfold Ids.ptr at C ⊢
      go_enter Try.func23, Try.ntmps23
      go_wp2_with fail
      refine C.out.mono ?_
      rintro e w1 ⟨rfl, hw⟩
      subst w1
      go_wp2
      go_ret2
      exact ⟨rfl, rfl⟩
  · rw [hd] at c4
    rw [if_pos rfl]
    clear h hd
    unfold Ids.ptr
    go_enter Try.func23, Try.ntmps23
    go_wp2
    go_ret2
    exact ⟨rfl, rfl⟩
theorem read_none (i : Int) (w : World) :
    Calls Try.prog 23 #[.pointer none, .int .i64 i] w fun e w' => e = .returned (.tuple #[.string ⟨#[]⟩, .int .i64 20]) ∧ w' = w := by
  go_enter Try.func23, Try.ntmps23
  go_wp2
  go_ret2
  exact ⟨rfl, rfl⟩
theorem write_none (i : Int) (d : ByteArray) (w : World) :
    Calls Try.prog 27 #[.pointer none, .int .i64 i, .string d] w fun e w' => e = .returned (.int .i64 20) ∧ w' = w := by
  go_enter Try.func27, Try.ntmps27
  go_wp2
  go_ret
  exact ⟨rfl, rfl⟩
theorem barrier_none (w : World) :
    Calls Try.prog 29 #[.pointer none] w fun e w' => e = .returned (.int .i64 20) ∧ w' = w := by
  go_enter Try.func29, Try.ntmps29
  go_wp2
  go_ret
  exact ⟨rfl, rfl⟩
theorem crash_none (v : Value) (w : World) :
    Calls Try.prog 14 #[.pointer none, v] w fun e w' => e = .returned (.pointer none) ∧ w' = w := by
  go_enter Try.func14, Try.ntmps14
  go_wp2
  go_ret
  exact ⟨rfl, rfl⟩

/-- A write that is done. -/
def Dsk.wrote (S : Dsk) (k : Nat) (d : ByteArray) : Dsk := { S.burnt with now := S.now.set k d, pend := S.pend ++ [(k, d)] }
def Dsk.write (S : Dsk) (i : Int) (d : ByteArray) : Dsk × Int :=
  if S.down = true then (S, 20) else if 0 ≤ i ∧ i < S.firm.length ∧ d.size = 64 then (if S.fuel = 0 then ({ S with down := true }, 20) else (S.wrote i.toNat d, 0)) else (S, 1)

theorem Try.info76 : (Try.prog.info? 76).map (fun i => (i.zero, i.size, i.bytes)) = some (some (.agg #[.int .i64 0, .string ⟨#[]⟩]), 2, 24) := by kernel_rfl

/-- The ids with another row of pending writes. -/
def Ids.with (I : Ids) (p : Value) : Ids := { I with p := p }
theorem wrote_ok {S : Dsk} (h : S.ok) (k : Nat) (d : ByteArray) (hk : k < S.firm.length) (h64 : d.size = 64) : (S.wrote k d).ok := by
  have l := h.len
  refine ⟨by simp [Dsk.wrote, Dsk.burnt, l], h.one, h.most, ?_, ?_, ?_, ?_, h.fsizes, ?_⟩
  · intro p hp
    simp only [Dsk.wrote, Dsk.burnt, List.mem_append, List.mem_singleton] at hp ⊢
    rcases hp with hp | rfl
    · exact h.pend p hp
    · exact hk
  · have := h.lo; simp only [Dsk.wrote, Dsk.burnt]; split <;> omega
  · have := h.hi; simp only [Dsk.wrote, Dsk.burnt]; split <;> omega
  · intro i hi
    simp only [Dsk.wrote, Dsk.burnt, List.length_set] at hi ⊢
    have hs := h.sizes i hi
    rw [List.getD_eq_getElem?_getD] at hs ⊢
    rw [List.getElem?_set]
    by_cases e : k = i
    · subst e; rw [if_pos rfl, if_pos hi]; exact h64
    · rw [if_neg e]; exact hs
  · intro p hp
    simp only [Dsk.wrote, Dsk.burnt, List.mem_append, List.mem_singleton] at hp
    rcases hp with hp | rfl
    · exact h.psizes p hp
    · exact h64

set_option maxHeartbeats 2000000 in
theorem write_good {w : World} {B : Nat} {I : Ids} {S : Dsk} (h : Dk w B I S) (k : Nat) (d : ByteArray) (hd : S.down = false) (hk : k < S.firm.length) (h64 : d.size = 64) (hf : S.fuel ≠ 0) (hB : B ≤ w.heap.size) (hp : S.pend.length ≤ 8796093022208) :
    Calls Try.prog 27 #[I.ptr, .int .i64 k, .string d] w fun e w' => e = .returned (.int .i64 0) ∧ ∃ p', Dk w' B (I.with p') (S.wrote k d) ∧ Out w w' I.foot := by
  have hok := wrote_ok h.ok k d hk h64
  have hlen := h.ok.len
  obtain ⟨c0, c1, c2, c3, c4⟩ := h.cells
  rw [hd] at c4
  have c := has_any h k
  rw [decide_eq_true ⟨by omega, by omega⟩] at c
  have b := burn_on h hf
  obtain ⟨i0, hi, hz0, hz1, hz2⟩ := info_parts Try.info76
  have C := Lib.hid c; have BU := Lib.hid b; have H := Lib.hid h; have HF := Lib.hid hf; have HP := Lib.hid hp
  have t64 : ((d.size : Int) != 64) = false := by simp [h64]
  have pe := h.pend
  have T64 := Lib.hid h64
  clear c b h hf hd h64
  unfold Ids.ptr at C BU ⊢
  go_enter Try.func27, Try.ntmps27
  go_wp2_with fail
  refine C.out.mono ?_
  rintro e w1 ⟨rfl, hw⟩
  subst w1
  go_wp2_with fail
  refine BU.out.mono ?_
  rintro e w1 ⟨rfl, h1, ho1⟩
  obtain ⟨c0, c1, c2, c3, c4⟩ := h1.cells
  have H1 := Lib.hid h1; have HO1 := Lib.hid ho1
  clear pe c0 c1 c3 c4 h1 ho1
  go_wp2_with (at_builtin; refine wpList_append_one _ rfl _ _ 68 rfl B 76 i0 (.agg #[.int .i64 0, .string { data := #[] }]) 2 24 Try.underlying68 hi hz0 hz1 hz2 rfl I.p S.pend.length (pcells S.pend) rfl (owns_of_block H1.out.pend (fun k hk => Below.heap_alloc _ _ k (H1.out.foot_lt (.inr (.inr (.inr hk)))).2)) ⟨w1.heap.size, 0, none⟩ 1 [.int .i64 k, .string d] rfl rfl ?qc2 ?qc3 ?qc4 (by omega) ?qc5 ?qc6 ?_)
  case qc2 =>
    intro j u hj
    have hn := (Bk.new w1 76 #[.int .i64 k, .string d]).cell j
    rw [Addr.add_lit, Nat.zero_add, hn]
    simpa using hj
  case qc3 => intro u hu; simp at hu; rcases hu with rfl | rfl <;> rfl
  case qc4 => have := HP.out; unfold maxLen; omega
  case qc5 => have := HP.out; omega
  case qc6 => have := HO1.out.size; simp; omega
  intro p' w2 hown hgrow
  have h1 := H1.out
  have b2 : Bk w2 I.g 70 (I.box S.burnt) := (h1.box.alloc _).grown hgrow (fun e => (h1.pg e.symm).1 rfl)
  have f2 : Rw w2 I.f 9 (S.firm.map .string) := (h1.firm.alloc _).of_block (hgrow.block _ (h1.firm.alloc _).lt (fun e => (h1.pg e.symm).2.1 rfl))
  have n2 : Rw w2 I.n 9 (S.now.map .string) := (h1.now.alloc _).of_block (hgrow.block _ (h1.now.alloc _).lt (fun e => (h1.pg e.symm).2.2 rfl))
  have hpb : ∀ j, p'.ownBlock = some j → j ≠ I.g ∧ j ≠ I.n := fun j hj => by
    obtain ⟨_, _, cur, hc⟩ := owns_block hown hj
    exact ⟨hc.ne_ b2 (by decide), fun e => n2.ne_bk hc (by decide) e.symm⟩
  have hD : Dk ((w2.setCell ⟨I.g, 2, none⟩ p').setCell ⟨I.n, k, none⟩ (.string d)) B (I.with p') (S.wrote k d) := by
    refine ⟨?_, (f2.far h1.gf _).far h1.ne _, ?_, ?_, h1.ne, h1.bg, h1.bf, h1.bn, hok⟩
    · have := (b2.set 2 p').far (p := ⟨I.n, k, none⟩) h1.gn.symm (.string d)
      simpa [Ids.box, Ids.with, Dsk.wrote, Dsk.burnt] using this
    · have := (n2.far h1.gn p' (p := ⟨I.g, 2, none⟩)).set k (.string d) (by simp; omega)
      simpa [Ids.with, Dsk.wrote, Dsk.burnt, List.map_set] using this
    · have e : pcells (S.wrote k d).pend = pcells S.pend ++ [.int .i64 k, .string d] := pcells_append _ _
      rw [e]
      have := owns_of_block hown (w' := (w2.setCell ⟨I.g, 2, none⟩ p').setCell ⟨I.n, k, none⟩ (.string d)) (fun j hj => (Below.heap_setCell _ _ _ j (hpb j hj).2).trans (Below.heap_setCell _ _ _ j (hpb j hj).1))
      simpa [Ids.with, Dsk.wrote, Dsk.burnt] using this
  have hO : Out w ((w2.setCell ⟨I.g, 2, none⟩ p').setCell ⟨I.n, k, none⟩ (.string d)) I.foot := by
    have o2 : Out w w2 I.foot := (HO1.out.alloc _).then_ (Out.of_grown hgrow (p := I.foot) (fun j hj _ => .inr (.inr (.inr hj)))) (fun _ _ h => h)
    exact (o2.set (fun _ => .inl rfl) _).set (fun _ => .inr (.inr (.inl rfl))) _
  have d1 := b2.cell 1; have d2 := b2.cell 2; have e2 := b2.fz 2
  have n3 := (n2.far h1.gn p' (p := ⟨I.g, 2, none⟩)).cell (i := k) (by simp; omega)
  have e3 := (n2.far h1.gn p' (p := ⟨I.g, 2, none⟩)).fz k
  have n3' := n2.cell (i := k) (by simp; omega)
  have hkn : k < S.now.length := by omega
  rw [List.getElem?_map, List.getElem?_eq_getElem hkn] at n3 n3'
  have e3' := n2.fz k
  have gn := h1.gn
  simp only [Ids.box, Dsk.burnt, List.getElem?_toArray, List.getElem?_cons_zero, List.getElem?_cons_succ] at d1 d2
  simp only [Option.map_some] at n3 n3'
  have HD := Lib.hid hD; have HO := Lib.hid hO
  obtain ⟨gp, cap, rfl⟩ : ∃ a c, p' = .slice a (S.pend.length + 1) c := by
    rcases hown.2 with ⟨_, e⟩ | ⟨_, _, _, e, _⟩
    · omega
    · exact ⟨_, _, e⟩
  clear h1 b2 f2 n2 hpb hD hO hown hgrow H1 HO1 hok
  go_wp2
  go_ret
  exact ⟨rfl, _, HD.out, HO.out⟩
end Go.Proofs.Ytplcddcdhnjfeaa
