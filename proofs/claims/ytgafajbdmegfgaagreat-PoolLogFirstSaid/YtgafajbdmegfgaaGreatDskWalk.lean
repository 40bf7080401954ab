/- The walks of package disk: the small methods. The walks of package disk: Read, Write. The walks of package disk: Write on every road, Barrier, over, New. The walks of package disk: over, New; of the law's helpers. -/
import Derived.Test.YtgafajbdmegfgaaGreatDskRep
import Derived.Test.YtgafajbdmegfgaaGreatDskPlain
import Derived.Test.YtgafajbdmegfgaaGreatApp1
set_option linter.unusedVariables false
set_option linter.unusedSimpArgs false
namespace Go.Proofs.YtgafajbdmegfgaaGreat
open Go.RowKit

/-- A device in memory. -/
structure Dk (w : World) (B : Nat) (I : Ids) (S : Dsk) : Prop where
  box : Bk w I.g 78 (I.box S)
  firm : Rw w I.f 9 (S.firm.map .string)
  now : Rw w I.n 9 (S.now.map .string)
  pend : w.ownsRow B 93 2 I.p S.pend.length (pcells S.pend)
  ne : I.f ≠ I.n
  bg : B ≤ I.g
  bf : B ≤ I.f
  bn : B ≤ I.n
  ok : S.ok

theorem owns_of_block {w w' : World} {base : Nat} {e : TypeId} {size : Nat} {v : Value} {n : Nat} {xs : List Value} (h : w.ownsRow base e size v n xs) (hb : ∀ k, v.ownBlock = some k → w'.heap[k]? = w.heap[k]?) : w'.ownsRow base e size v n xs := by
  obtain ⟨h1, h2⟩ := h
  refine ⟨h1, ?_⟩
  rcases h2 with h | ⟨g, cap, cur, rfl, hg, hh, r⟩
  · exact .inl h
  · exact .inr ⟨g, cap, cur, rfl, hg, (hb g rfl).trans hh, r⟩
theorem owns_block {w : World} {base : Nat} {e : TypeId} {size : Nat} {v : Value} {n : Nat} {xs : List Value} (h : w.ownsRow base e size v n xs) {k : Nat} (hk : v.ownBlock = some k) : base ≤ k ∧ k < w.heap.size ∧ ∃ cur, Bk w k e cur := by
  rcases h.2 with ⟨rfl, _⟩ | ⟨g, cap, cur, rfl, hg, hh, r⟩
  · simp [Value.ownBlock] at hk
  · simp [Value.ownBlock] at hk
    subst hk
    exact ⟨hg, Bk.lt hh, cur, hh⟩
theorem Rw.ne_bk {w : World} {g k : Nat} {t t' : TypeId} {xs : List Value} {cs : Array Value} (h : Rw w g t xs) (h' : Bk w k t' cs) (hne : t ≠ t') : g ≠ k := by
  obtain ⟨c, hb, _⟩ := h
  exact hb.ne_ h' hne

namespace Dk
variable {w w' : World} {B : Nat} {I : Ids} {S : Dsk}
theorem foot_lt (h : Dk w B I S) {k : Nat} (hk : I.foot k) : B ≤ k ∧ k < w.heap.size := by
  rcases hk with rfl | rfl | rfl | hk
  · exact ⟨h.bg, h.box.lt⟩
  · exact ⟨h.bf, h.firm.lt⟩
  · exact ⟨h.bn, h.now.lt⟩
  · exact ⟨(owns_block h.pend hk).1, (owns_block h.pend hk).2.1⟩
theorem of_same (h : Dk w B I S) (hb : ∀ k, I.foot k → w'.heap[k]? = w.heap[k]?) : Dk w' B I S :=
  ⟨(hb _ (.inl rfl)).trans h.box, h.firm.of_block (hb _ (.inr (.inl rfl))), h.now.of_block (hb _ (.inr (.inr (.inl rfl)))), owns_of_block h.pend (fun k hk => hb k (.inr (.inr (.inr hk)))), h.ne, h.bg, h.bf, h.bn, h.ok⟩
theorem kept (h : Dk w B I S) (hb : Below w.heap.size w w') : Dk w' B I S := h.of_same fun k hk => hb.block k (h.foot_lt hk).2
theorem out {p : Nat → Prop} (h : Dk w B I S) (hb : Out w w' p) (hn : ∀ k, I.foot k → ¬ p k) : Dk w' B I S := h.of_same fun k hk => hb.block k (h.foot_lt hk).2 (hn k hk)
theorem gf (h : Dk w B I S) : I.f ≠ I.g := h.firm.ne_bk h.box (by decide)
theorem gn (h : Dk w B I S) : I.n ≠ I.g := h.now.ne_bk h.box (by decide)
theorem pg (h : Dk w B I S) {k : Nat} (hk : I.p.ownBlock = some k) : k ≠ I.g ∧ k ≠ I.f ∧ k ≠ I.n := by
  obtain ⟨_, _, cur, hc⟩ := owns_block h.pend hk
  exact ⟨hc.ne_ h.box (by decide), fun e => h.firm.ne_bk hc (by decide) e.symm, fun e => h.now.ne_bk hc (by decide) e.symm⟩
theorem cells (h : Dk w B I S) : w.cell? ⟨I.g, 0, none⟩ = some (.slice (some ⟨I.f, 0, none⟩) S.firm.length I.fc) ∧ w.cell? ⟨I.g, 1, none⟩ = some (.slice (some ⟨I.n, 0, none⟩) S.now.length I.nc) ∧ w.cell? ⟨I.g, 2, none⟩ = some I.p ∧ w.cell? ⟨I.g, 3, none⟩ = some (.int .i64 S.fuel) ∧ w.cell? ⟨I.g, 4, none⟩ = some (.bool S.down) :=
  ⟨h.box.cell 0, h.box.cell 1, h.box.cell 2, h.box.cell 3, h.box.cell 4⟩
/-- The pending slice, as a value. -/
theorem pval (h : Dk w B I S) : ∃ a c, I.p = .slice a S.pend.length c := by
  rcases h.pend.2 with ⟨e, e2⟩ | ⟨g, cap, cur, e, _⟩
  · exact ⟨none, 0, by rw [e, e2]⟩
  · exact ⟨_, _, e⟩
/-- Fuel or down anew. -/
theorem setFuel (h : Dk w B I S) (n : Int) (h0 : -1 ≤ n) (h1 : n ≤ 9223372036854775807) : Dk (w.setCell ⟨I.g, 3, none⟩ (.int .i64 n)) B I { S with fuel := n } :=
  ⟨h.box.set 3 _, h.firm.far h.gf _, h.now.far h.gn _, owns_of_block h.pend (fun k hk => Below.heap_setCell w _ _ k (h.pg hk).1), h.ne, h.bg, h.bf, h.bn, ⟨h.ok.len, h.ok.one, h.ok.most, h.ok.pend, h0, h1, h.ok.sizes, h.ok.fsizes, h.ok.psizes⟩⟩
theorem setDown (h : Dk w B I S) : Dk (w.setCell ⟨I.g, 4, none⟩ (.bool true)) B I { S with down := true } :=
  ⟨h.box.set 4 _, h.firm.far h.gf _, h.now.far h.gn _, owns_of_block h.pend (fun k hk => Below.heap_setCell w _ _ k (h.pg hk).1), h.ne, h.bg, h.bf, h.bn, ⟨h.ok.len, h.ok.one, h.ok.most, h.ok.pend, h.ok.lo, h.ok.hi, h.ok.sizes, h.ok.fsizes, h.ok.psizes⟩⟩
end Dk

theorem size_any {w : World} {B : Nat} {I : Ids} {S : Dsk} (h : Dk w B I S) :
    Calls Tryz.prog 24 #[I.ptr] w fun e w' => e = .returned (.int .i64 S.firm.length) ∧ w' = w := by
  obtain ⟨c0, c1, c2, c3, c4⟩ := h.cells
  rw [← h.ok.len]
  clear h
  unfold Ids.ptr
  go_enter Tryz.func24, Tryz.ntmps24
  go_wp2
  go_ret
  exact ⟨rfl, rfl⟩
theorem size_none (w : World) :
    Calls Tryz.prog 24 #[.pointer none] w fun e w' => e = .returned (.int .i64 0) ∧ w' = w := by
  go_enter Tryz.func24, Tryz.ntmps24
  go_wp2
  go_ret
  exact ⟨rfl, rfl⟩
theorem fuel_none (n : Int) (w : World) :
    Calls Tryz.prog 8 #[.pointer none, .int .i64 n] w fun e w' => e = .returned (.tuple #[]) ∧ w' = w := by
  go_enter Tryz.func8, Tryz.ntmps8
  go_wp2
  (try simp only [Exit.inBlock, Exit.then])
  refine bodyPost_ret (results_none rfl _ _ _) rfl ?_
  exact ⟨rfl, rfl⟩
theorem fuel_any {w : World} {B : Nat} {I : Ids} {S : Dsk} (h : Dk w B I S) (n : Int) (hn : n ≤ 9223372036854775807) :
    Calls Tryz.prog 8 #[I.ptr, .int .i64 n] w fun e w' => e = .returned (.tuple #[]) ∧ Dk w' B I { S with fuel := if n < 0 then -1 else n } ∧ Out w w' I.foot := by
  obtain ⟨c0, c1, c2, c3, c4⟩ := h.cells
  have f3 := h.box.fz 3
  by_cases h0 : n < 0
  · rw [if_pos h0]
    have hd := h.setFuel (-1) (by omega) (by omega)
    have ho : Out w (w.setCell ⟨I.g, 3, none⟩ (.int .i64 (-1))) I.foot := (Out.refl w _).set (fun _ => .inl rfl) _
    have HD := Lib.hid hd; have HO := Lib.hid ho
    clear h hd ho
    unfold Ids.ptr
    go_enter Tryz.func8, Tryz.ntmps8
    go_wp2
    go_end0
    exact ⟨rfl, HD.out, HO.out⟩
  · rw [if_neg h0]
    have hd := h.setFuel n (by omega) hn
    have ho : Out w (w.setCell ⟨I.g, 3, none⟩ (.int .i64 n)) I.foot := (Out.refl w _).set (fun _ => .inl rfl) _
    have HD := Lib.hid hd; have HO := Lib.hid ho
    clear h hd ho
    unfold Ids.ptr
    go_enter Tryz.func8, Tryz.ntmps8
    go_wp2
    go_end0
    exact ⟨rfl, HD.out, HO.out⟩

theorem dhas_any {w : World} {B : Nat} {I : Ids} {S : Dsk} (h : Dk w B I S) (i : Int) :
    Calls Tryz.prog 44 #[I.ptr, .int .i64 i] w fun e w' => e = .returned (.bool (decide (0 ≤ i ∧ i < S.firm.length))) ∧ w' = w := by
  obtain ⟨c0, c1, c2, c3, c4⟩ := h.cells
  rw [h.ok.len] at c1
  clear h
  unfold Ids.ptr
  go_enter Tryz.func44, Tryz.ntmps44
  by_cases h0 : 0 ≤ i
  · by_cases h1 : i < S.firm.length
    · rw [decide_eq_true ⟨h0, h1⟩]
      go_wp2
      go_ret
      exact ⟨rfl, rfl⟩
    · rw [decide_eq_false (by omega)]
      go_wp2
      go_ret
      exact ⟨rfl, rfl⟩
  · rw [decide_eq_false (by omega)]
    go_wp2
    go_ret
    exact ⟨rfl, rfl⟩

def Dsk.burnt (S : Dsk) : Dsk := { S with fuel := if 0 < S.fuel then S.fuel - 1 else S.fuel }
theorem burn_out {w : World} {B : Nat} {I : Ids} {S : Dsk} (h : Dk w B I S) (h0 : S.fuel = 0) :
    Calls Tryz.prog 45 #[I.ptr] w fun e w' => e = .returned (.int .i64 20) ∧ Dk w' B I { S with down := true } ∧ Out w w' I.foot := by
  obtain ⟨c0, c1, c2, c3, c4⟩ := h.cells
  rw [h0] at c3
  have f4 := h.box.fz 4
  have hd := h.setDown
  have ho : Out w (w.setCell ⟨I.g, 4, none⟩ (.bool true)) I.foot := (Out.refl w _).set (fun _ => .inl rfl) _
  have HD := Lib.hid hd; have HO := Lib.hid ho
  clear h hd ho
  unfold Ids.ptr
  go_enter Tryz.func45, Tryz.ntmps45
  go_wp2
  go_ret
  exact ⟨rfl, HD.out, HO.out⟩
theorem burn_on {w : World} {B : Nat} {I : Ids} {S : Dsk} (h : Dk w B I S) (h0 : S.fuel ≠ 0) :
    Calls Tryz.prog 45 #[I.ptr] w fun e w' => e = .returned (.int .i64 0) ∧ Dk w' B I S.burnt ∧ Out w w' I.foot := by
  obtain ⟨c0, c1, c2, c3, c4⟩ := h.cells
  have f3 := h.box.fz 3
  have lo := h.ok.lo; have hi := h.ok.hi
  have t0 : (S.fuel == 0) = false := by simpa using h0
  unfold Dsk.burnt
  by_cases hp : 0 < S.fuel
  · rw [if_pos hp]
    have hd := h.setFuel (S.fuel - 1) (by omega) (by omega)
    have ho : Out w (w.setCell ⟨I.g, 3, none⟩ (.int .i64 (S.fuel - 1))) I.foot := (Out.refl w _).set (fun _ => .inl rfl) _
    have HD := Lib.hid hd; have HO := Lib.hid ho
    clear h hd ho
    unfold Ids.ptr
    go_enter Tryz.func45, Tryz.ntmps45
    go_wp2
    go_ret
    exact ⟨rfl, HD.out, HO.out⟩
  · rw [if_neg hp]
    have HD := Lib.hid h
    clear h
    unfold Ids.ptr
    go_enter Tryz.func45, Tryz.ntmps45
    go_wp2
    go_ret
    exact ⟨rfl, HD.out, Out.refl _ _⟩
end Go.Proofs.YtgafajbdmegfgaaGreat
namespace Go.Proofs.YtgafajbdmegfgaaGreat
open Go.RowKit

def Dsk.read (S : Dsk) (i : Int) : ByteArray × Int := if S.down = true then (⟨#[]⟩, 20) else if 0 ≤ i ∧ i < S.firm.length then (S.now.getD i.toNat ⟨#[]⟩, 0) else (⟨#[]⟩, 1)
theorem now_get {S : Dsk} (h : S.ok) (k : Nat) (hk : k < S.firm.length) : (S.now.map Value.string)[k]? = some (.string (S.now.getD k ⟨#[]⟩)) := by
  have hl : k < S.now.length := by rw [h.len]; exact hk
  rw [List.getElem?_map, List.getD_eq_getElem?_getD, List.getElem?_eq_getElem hl]
  rfl
theorem read_any {w : World} {B : Nat} {I : Ids} {S : Dsk} (h : Dk w B I S) (i : Int) :
    Calls Tryz.prog 39 #[I.ptr, .int .i64 i] w fun e w' => e = .returned (.tuple #[.string (S.read i).1, .int .i64 (S.read i).2]) ∧ w' = w := by
  obtain ⟨c0, c1, c2, c3, c4⟩ := h.cells
  unfold Dsk.read
  rcases hd : S.down with _ | _
  · rw [hd] at c4
    have c := dhas_any h i
    by_cases hi : 0 ≤ i ∧ i < S.firm.length
    · rw [if_neg (by simp), if_pos hi]
      obtain ⟨k, rfl⟩ := Int.eq_ofNat_of_zero_le hi.1
      have hk : k < S.firm.length := by omega
      rw [decide_eq_true hi] at c
      have n0 := h.now.cell (i := k) (by rw [List.length_map, h.ok.len]; exact hk)
      rw [now_get h.ok k hk] at n0
      rw [h.ok.len] at c1
      have C := Lib.hid c
      clear h c hi hd
      unfold Ids.ptr at C ⊢
      simp only [Int.toNat_natCast]
      go_enter Tryz.func39, Tryz.ntmps39
      go_wp2_with fail
      refine C.out.mono ?_
      rintro e w1 ⟨rfl, hw⟩
      subst w1
      go_wp2
      go_ret2
      exact ⟨rfl, rfl⟩
    · rw [if_neg (by simp), if_neg hi]
      rw [decide_eq_false hi] at c
      have C := Lib.hid c
      clear h c hi hd
      unfold Ids.ptr at C ⊢
      go_enter Tryz.func39, Tryz.ntmps39
      go_wp2_with fail
      refine C.out.mono ?_
      rintro e w1 ⟨rfl, hw⟩
      subst w1
      go_wp2
      go_ret2
      exact ⟨rfl, rfl⟩
  · rw [hd] at c4
    rw [if_pos rfl]
    clear h hd
    unfold Ids.ptr
    go_enter Tryz.func39, Tryz.ntmps39
    go_wp2
    go_ret2
    exact ⟨rfl, rfl⟩
theorem read_none (i : Int) (w : World) :
    Calls Tryz.prog 39 #[.pointer none, .int .i64 i] w fun e w' => e = .returned (.tuple #[.string ⟨#[]⟩, .int .i64 20]) ∧ w' = w := by
  go_enter Tryz.func39, Tryz.ntmps39
  go_wp2
  go_ret2
  exact ⟨rfl, rfl⟩
theorem write_none (i : Int) (d : ByteArray) (w : World) :
    Calls Tryz.prog 21 #[.pointer none, .int .i64 i, .string d] w fun e w' => e = .returned (.int .i64 20) ∧ w' = w := by
  go_enter Tryz.func21, Tryz.ntmps21
  go_wp2
  go_ret
  exact ⟨rfl, rfl⟩
theorem barrier_none (w : World) :
    Calls Tryz.prog 23 #[.pointer none] w fun e w' => e = .returned (.int .i64 20) ∧ w' = w := by
  go_enter Tryz.func23, Tryz.ntmps23
  go_wp2
  go_ret
  exact ⟨rfl, rfl⟩
theorem crash_none (v : Value) (w : World) :
    Calls Tryz.prog 14 #[.pointer none, v] w fun e w' => e = .returned (.pointer none) ∧ w' = w := by
  go_enter Tryz.func14, Tryz.ntmps14
  go_wp2
  go_ret
  exact ⟨rfl, rfl⟩

/-- A write that is done. -/
def Dsk.wrote (S : Dsk) (k : Nat) (d : ByteArray) : Dsk := { S.burnt with now := S.now.set k d, pend := S.pend ++ [(k, d)] }
def Dsk.write (S : Dsk) (i : Int) (d : ByteArray) : Dsk × Int :=
  if S.down = true then (S, 20) else if 0 ≤ i ∧ i < S.firm.length ∧ d.size = 64 then (if S.fuel = 0 then ({ S with down := true }, 20) else (S.wrote i.toNat d, 0)) else (S, 1)

theorem Tryz.info93 : (Tryz.prog.info? 93).map (fun i => (i.zero, i.size, i.bytes)) = some (some (.agg #[.int .i64 0, .string ⟨#[]⟩]), 2, 24) := by kernel_rfl

/-- The ids with another row of pending writes. -/
def Ids.with (I : Ids) (p : Value) : Ids := { I with p := p }
theorem wrote_ok {S : Dsk} (h : S.ok) (k : Nat) (d : ByteArray) (hk : k < S.firm.length) (h64 : d.size = 64) : (S.wrote k d).ok := by
  have l := h.len
  refine ⟨by simp [Dsk.wrote, Dsk.burnt, l], h.one, h.most, ?_, ?_, ?_, ?_, h.fsizes, ?_⟩
  · intro p hp
    simp only [Dsk.wrote, Dsk.burnt, List.mem_append, List.mem_singleton] at hp ⊢
    rcases hp with hp | rfl
    · exact h.pend p hp
    · exact hk
  · have := h.lo; simp only [Dsk.wrote, Dsk.burnt]; split <;> omega
  · have := h.hi; simp only [Dsk.wrote, Dsk.burnt]; split <;> omega
  · intro i hi
    simp only [Dsk.wrote, Dsk.burnt, List.length_set] at hi ⊢
    have hs := h.sizes i hi
    rw [List.getD_eq_getElem?_getD] at hs ⊢
    rw [List.getElem?_set]
    by_cases e : k = i
    · subst e; rw [if_pos rfl, if_pos hi]; exact h64
    · rw [if_neg e]; exact hs
  · intro p hp
    simp only [Dsk.wrote, Dsk.burnt, List.mem_append, List.mem_singleton] at hp
    rcases hp with hp | rfl
    · exact h.psizes p hp
    · exact h64

set_option maxHeartbeats 2000000 in
theorem write_good {w : World} {B : Nat} {I : Ids} {S : Dsk} (h : Dk w B I S) (k : Nat) (d : ByteArray) (hd : S.down = false) (hk : k < S.firm.length) (h64 : d.size = 64) (hf : S.fuel ≠ 0) (hB : B ≤ w.heap.size) (hp : S.pend.length ≤ 8796093022208) :
    Calls Tryz.prog 21 #[I.ptr, .int .i64 k, .string d] w fun e w' => e = .returned (.int .i64 0) ∧ ∃ p', Dk w' B (I.with p') (S.wrote k d) ∧ Out w w' I.foot := by
  have hok := wrote_ok h.ok k d hk h64
  have hlen := h.ok.len
  obtain ⟨c0, c1, c2, c3, c4⟩ := h.cells
  rw [hd] at c4
  have c := dhas_any h k
  rw [decide_eq_true ⟨by omega, by omega⟩] at c
  have b := burn_on h hf
  obtain ⟨i0, hi, hz0, hz1, hz2⟩ := info_parts Tryz.info93
  have C := Lib.hid c; have BU := Lib.hid b; have H := Lib.hid h; have HF := Lib.hid hf; have HP := Lib.hid hp
  have t64 : ((d.size : Int) != 64) = false := by simp [h64]
  have pe := h.pend
  have T64 := Lib.hid h64
  clear c b h hf hd h64
  unfold Ids.ptr at C BU ⊢
  go_enter Tryz.func21, Tryz.ntmps21
  go_wp2_with fail
  refine C.out.mono ?_
  rintro e w1 ⟨rfl, hw⟩
  subst w1
  go_wp2_with fail
  refine BU.out.mono ?_
  rintro e w1 ⟨rfl, h1, ho1⟩
  obtain ⟨c0, c1, c2, c3, c4⟩ := h1.cells
  have H1 := Lib.hid h1; have HO1 := Lib.hid ho1
  clear pe c0 c1 c3 c4 h1 ho1
  go_wp2_with (at_builtin; refine wpList_append_one _ rfl _ _ 76 rfl B 93 i0 (.agg #[.int .i64 0, .string { data := #[] }]) 2 24 Tryz.underlying76 hi hz0 hz1 hz2 rfl I.p S.pend.length (pcells S.pend) rfl (owns_of_block H1.out.pend (fun k hk => Below.heap_alloc _ _ k (H1.out.foot_lt (.inr (.inr (.inr hk)))).2)) ⟨w1.heap.size, 0, none⟩ 1 [.int .i64 k, .string d] rfl rfl ?qc2 ?qc3 ?qc4 (by omega) ?qc5 ?qc6 ?_)
  case qc2 =>
    intro j u hj
    have hn := (Bk.new w1 93 #[.int .i64 k, .string d]).cell j
    rw [Addr.add_lit, Nat.zero_add, hn]
    simpa using hj
  case qc3 => intro u hu; simp at hu; rcases hu with rfl | rfl <;> rfl
  case qc4 => have := HP.out; unfold maxLen; omega
  case qc5 => have := HP.out; omega
  case qc6 => have := HO1.out.size; simp; omega
  intro p' w2 hown hgrow
  have h1 := H1.out
  have b2 : Bk w2 I.g 78 (I.box S.burnt) := (h1.box.alloc _).grown hgrow (fun e => (h1.pg e.symm).1 rfl)
  have f2 : Rw w2 I.f 9 (S.firm.map .string) := (h1.firm.alloc _).of_block (hgrow.block _ (h1.firm.alloc _).lt (fun e => (h1.pg e.symm).2.1 rfl))
  have n2 : Rw w2 I.n 9 (S.now.map .string) := (h1.now.alloc _).of_block (hgrow.block _ (h1.now.alloc _).lt (fun e => (h1.pg e.symm).2.2 rfl))
  have hpb : ∀ j, p'.ownBlock = some j → j ≠ I.g ∧ j ≠ I.n := fun j hj => by
    obtain ⟨_, _, cur, hc⟩ := owns_block hown hj
    exact ⟨hc.ne_ b2 (by decide), fun e => n2.ne_bk hc (by decide) e.symm⟩
  have hD : Dk ((w2.setCell ⟨I.g, 2, none⟩ p').setCell ⟨I.n, k, none⟩ (.string d)) B (I.with p') (S.wrote k d) := by
    refine ⟨?_, (f2.far h1.gf _).far h1.ne _, ?_, ?_, h1.ne, h1.bg, h1.bf, h1.bn, hok⟩
    · have := (b2.set 2 p').far (p := ⟨I.n, k, none⟩) h1.gn.symm (.string d)
      simpa [Ids.box, Ids.with, Dsk.wrote, Dsk.burnt] using this
    · have := (n2.far h1.gn p' (p := ⟨I.g, 2, none⟩)).set k (.string d) (by simp; omega)
      simpa [Ids.with, Dsk.wrote, Dsk.burnt, List.map_set] using this
    · have e : pcells (S.wrote k d).pend = pcells S.pend ++ [.int .i64 k, .string d] := pcells_append _ _
      rw [e]
      have := owns_of_block hown (w' := (w2.setCell ⟨I.g, 2, none⟩ p').setCell ⟨I.n, k, none⟩ (.string d)) (fun j hj => (Below.heap_setCell _ _ _ j (hpb j hj).2).trans (Below.heap_setCell _ _ _ j (hpb j hj).1))
      simpa [Ids.with, Dsk.wrote, Dsk.burnt] using this
  have hO : Out w ((w2.setCell ⟨I.g, 2, none⟩ p').setCell ⟨I.n, k, none⟩ (.string d)) I.foot := by
    have o2 : Out w w2 I.foot := (HO1.out.alloc _).then_ (Out.of_grown hgrow (p := I.foot) (fun j hj _ => .inr (.inr (.inr hj)))) (fun _ _ h => h)
    exact (o2.set (fun _ => .inl rfl) _).set (fun _ => .inr (.inr (.inl rfl))) _
  have d1 := b2.cell 1; have d2 := b2.cell 2; have e2 := b2.fz 2
  have n3 := (n2.far h1.gn p' (p := ⟨I.g, 2, none⟩)).cell (i := k) (by simp; omega)
  have e3 := (n2.far h1.gn p' (p := ⟨I.g, 2, none⟩)).fz k
  have n3' := n2.cell (i := k) (by simp; omega)
  have hkn : k < S.now.length := by omega
  rw [List.getElem?_map, List.getElem?_eq_getElem hkn] at n3 n3'
  have e3' := n2.fz k
  have gn := h1.gn
  simp only [Ids.box, Dsk.burnt, List.getElem?_toArray, List.getElem?_cons_zero, List.getElem?_cons_succ] at d1 d2
  simp only [Option.map_some] at n3 n3'
  have HD := Lib.hid hD; have HO := Lib.hid hO
  obtain ⟨gp, cap, rfl⟩ : ∃ a c, p' = .slice a (S.pend.length + 1) c := by
    rcases hown.2 with ⟨_, e⟩ | ⟨_, _, _, e, _⟩
    · omega
    · exact ⟨_, _, e⟩
  clear h1 b2 f2 n2 hpb hD hO hown hgrow H1 HO1 hok
  go_wp2
  go_ret
  exact ⟨rfl, _, HD.out, HO.out⟩
end Go.Proofs.YtgafajbdmegfgaaGreat
namespace Go.Proofs.YtgafajbdmegfgaaGreat
open Go.RowKit

theorem write_any {w : World} {B : Nat} {I : Ids} {S : Dsk} (h : Dk w B I S) (i : Int) (d : ByteArray) (hB : B ≤ w.heap.size) (hp : S.pend.length ≤ 8796093022208) :
    Calls Tryz.prog 21 #[I.ptr, .int .i64 i, .string d] w fun e w' => e = .returned (.int .i64 (S.write i d).2) ∧ ∃ p', Dk w' B (I.with p') (S.write i d).1 ∧ Out w w' I.foot := by
  unfold Dsk.write
  obtain ⟨c0, c1, c2, c3, c4⟩ := h.cells
  rcases hd : S.down with _ | _
  · rw [if_neg (by simp)]
    by_cases hi : 0 ≤ i ∧ i < S.firm.length ∧ d.size = 64
    · rw [if_pos hi]
      obtain ⟨k, rfl⟩ := Int.eq_ofNat_of_zero_le hi.1
      by_cases hf : S.fuel = 0
      · rw [if_pos hf]
        have c := dhas_any h k
        rw [decide_eq_true ⟨hi.1, hi.2.1⟩] at c
        have b := burn_out h hf
        have t64 : ((d.size : Int) != 64) = false := by simp [hi.2.2]
        rw [hd] at c4
        have C := Lib.hid c; have BU := Lib.hid b
        clear h c b hf hd hi hp hB
        unfold Ids.ptr at C BU ⊢
        go_enter Tryz.func21, Tryz.ntmps21
        go_wp2_with fail
        refine C.out.mono ?_
        rintro e w1 ⟨rfl, hw⟩
        subst w1
        go_wp2_with fail
        refine BU.out.mono ?_
        rintro e w1 ⟨rfl, h1, ho1⟩
        have H1 := Lib.hid h1; have HO1 := Lib.hid ho1; clear h1 ho1
        go_wp2
        go_ret
        exact ⟨rfl, I.p, H1.out, HO1.out⟩
      · rw [if_neg hf]
        have := write_good h k d hd (by omega) hi.2.2 hf hB hp
        rw [Int.toNat_natCast]
        exact this
    · rw [if_neg hi]
      have c := dhas_any h i
      rw [hd] at c4
      by_cases hh : 0 ≤ i ∧ i < S.firm.length
      · rw [decide_eq_true hh] at c
        have t64 : ((d.size : Int) != 64) = true := by simp; intro e; exact hi ⟨hh.1, hh.2, by omega⟩
        have C := Lib.hid c; have H := Lib.hid h
        clear h c hd hi hp hB hh
        unfold Ids.ptr at C ⊢
        go_enter Tryz.func21, Tryz.ntmps21
        go_wp2_with fail
        refine C.out.mono ?_
        rintro e w1 ⟨rfl, hw⟩
        subst w1
        go_wp2
        go_ret
        exact ⟨rfl, I.p, H.out, Out.refl _ _⟩
      · rw [decide_eq_false hh] at c
        have C := Lib.hid c; have H := Lib.hid h
        clear h c hd hi hp hB hh
        unfold Ids.ptr at C ⊢
        go_enter Tryz.func21, Tryz.ntmps21
        go_wp2_with fail
        refine C.out.mono ?_
        rintro e w1 ⟨rfl, hw⟩
        subst w1
        go_wp2
        go_ret
        exact ⟨rfl, I.p, H.out, Out.refl _ _⟩
  · rw [if_pos rfl]
    rw [hd] at c4
    have H := Lib.hid h
    clear h hd hp hB
    unfold Ids.ptr
    go_enter Tryz.func21, Tryz.ntmps21
    go_wp2
    go_ret
    exact ⟨rfl, I.p, H.out, Out.refl _ _⟩

def apply (l : List ByteArray) (ps : List (Nat × ByteArray)) : List ByteArray := ps.foldl (fun l p => l.set p.1 p.2) l
theorem apply_length (ps : List (Nat × ByteArray)) : ∀ l, (apply l ps).length = l.length := by
  induction ps with
  | nil => intro l; rfl
  | cons p ps ih => intro l; show (apply (l.set p.1 p.2) ps).length = _; rw [ih, List.length_set]
theorem apply_take (l : List ByteArray) (ps : List (Nat × ByteArray)) (i : Nat) (hi : i < ps.length) : apply l (ps.take (i + 1)) = (apply l (ps.take i)).set ps[i].1 ps[i].2 := by
  unfold apply
  rw [List.take_succ_eq_append_getElem hi, List.foldl_append]
  rfl
theorem apply_sizes (ps : List (Nat × ByteArray)) (hps : ∀ p ∈ ps, p.2.size = 64) : ∀ l : List ByteArray, (∀ i, i < l.length → (l.getD i ⟨#[]⟩).size = 64) → ∀ i, i < l.length → ((apply l ps).getD i ⟨#[]⟩).size = 64 := by
  induction ps with
  | nil => intro l hl i hi; exact hl i hi
  | cons p ps ih =>
    intro l hl i hi
    refine ih (fun q hq => hps q (by simp [hq])) (l.set p.1 p.2) ?_ i (by simpa using hi)
    intro j hj
    rw [List.length_set] at hj
    have hs := hl j hj
    rw [List.getD_eq_getElem?_getD] at hs ⊢
    rw [List.getElem?_set]
    by_cases e : p.1 = j
    · rw [if_pos e, if_pos (by omega)]; exact hps p (by simp)
    · rw [if_neg e]; exact hs
theorem set_sizes {l : List ByteArray} (hl : ∀ i, i < l.length → (l.getD i ⟨#[]⟩).size = 64) (k : Nat) (d : ByteArray) (h : d.size = 64) : ∀ i, i < (l.set k d).length → ((l.set k d).getD i ⟨#[]⟩).size = 64 := by
  intro i hi
  rw [List.length_set] at hi
  have hs := hl i hi
  rw [List.getD_eq_getElem?_getD] at hs ⊢
  rw [List.getElem?_set]
  by_cases e : k = i
  · subst e; rw [if_pos rfl, if_pos hi]; exact h
  · rw [if_neg e]; exact hs

def Dsk.firmed (S : Dsk) (l : List ByteArray) : Dsk := { S with firm := l }
def Dsk.synced (S : Dsk) : Dsk := { S.burnt with firm := apply S.firm S.pend, pend := [] }
theorem Dk.setFirm {w : World} {B : Nat} {I : Ids} {S : Dsk} (h : Dk w B I S) (k : Nat) (d : ByteArray) (hk : k < S.firm.length) (h64 : d.size = 64) : Dk (w.setCell ⟨I.f, k, none⟩ (.string d)) B I (S.firmed (S.firm.set k d)) :=
  ⟨by have := h.box.far (p := ⟨I.f, k, none⟩) h.gf.symm (.string d); simpa [Ids.box, Dsk.firmed] using this,
   by have := h.firm.set k (.string d) (by simpa using hk); simpa [Dsk.firmed, List.map_set] using this,
   h.now.far h.ne.symm _, owns_of_block h.pend (fun j hj => Below.heap_setCell w _ _ j (h.pg hj).2.1), h.ne, h.bg, h.bf, h.bn,
   ⟨by simp [Dsk.firmed, h.ok.len], by simp [Dsk.firmed, h.ok.one], by simp [Dsk.firmed, h.ok.most], fun p hp => by simpa [Dsk.firmed] using h.ok.pend p hp, h.ok.lo, h.ok.hi, h.ok.sizes, set_sizes h.ok.fsizes k d h64, h.ok.psizes⟩⟩
theorem Dk.setNil {w : World} {B : Nat} {I : Ids} {S : Dsk} (h : Dk w B I S) : Dk (w.setCell ⟨I.g, 2, none⟩ (.slice none 0 0)) B (I.with (.slice none 0 0)) { S with pend := [] } :=
  ⟨h.box.set 2 _, h.firm.far h.gf _, h.now.far h.gn _, World.ownsRow_nil _ _ _ _, h.ne, h.bg, h.bf, h.bn, ⟨h.ok.len, h.ok.one, h.ok.most, fun p hp => by simp at hp, h.ok.lo, h.ok.hi, h.ok.sizes, h.ok.fsizes, fun p hp => by simp at hp⟩⟩
/-- A pending write's two cells. -/
theorem Dk.pcell {w : World} {B : Nat} {I : Ids} {S : Dsk} (h : Dk w B I S) (i : Nat) (hi : i < S.pend.length) :
    ∃ gp c, I.p = .slice (some ⟨gp, 0, none⟩) S.pend.length c ∧ gp < w.heap.size ∧ w.cell? ⟨gp, i * 2, none⟩ = some (.int .i64 (S.pend[i].1 : Int)) ∧ w.cell? ⟨gp, i * 2 + 1, none⟩ = some (.string S.pend[i].2) := by
  rcases h.pend.2 with ⟨e, e2⟩ | ⟨g, cap, cur, e, hg, hh, hn, hc, hs, ht⟩
  · omega
  · have hb : Bk w g 93 cur := hh
    obtain ⟨q0, q1⟩ := pcells_get S.pend i hi
    refine ⟨g, cap, e, hb.lt, ?_, ?_⟩
    · rw [hb.cell, ← q0, ← ht, List.getElem?_take_of_lt (by omega), Array.getElem?_toList]
    · rw [hb.cell, ← q1, ← ht, List.getElem?_take_of_lt (by omega), Array.getElem?_toList]

theorem Dk.plen {w : World} {B : Nat} {I : Ids} {S : Dsk} (h : Dk w B I S) : S.pend.length ≤ 9223372036854775807 := by
  rcases h.pend.2 with ⟨e, e2⟩ | ⟨g, cap, cur, e, hg, hh, hn, hc, hs, ht⟩
  · omega
  · unfold maxLen at hc; omega

set_option maxHeartbeats 2000000 in
theorem barrier_good {w : World} {B : Nat} {I : Ids} {S : Dsk} (h : Dk w B I S) (hd : S.down = false) (hf : S.fuel ≠ 0) :
    Calls Tryz.prog 23 #[I.ptr] w fun e w' => e = .returned (.int .i64 0) ∧ Dk w' B (I.with (.slice none 0 0)) S.synced ∧ Out w w' I.foot := by
  obtain ⟨c0, c1, c2, c3, c4⟩ := h.cells
  rw [hd] at c4
  have b := burn_on h hf
  have lo : ∀ i, i < S.pend.length → S.pend[i]!.1 < S.firm.length ∧ S.pend[i]!.2.size = 64 := fun i hi => by
    rw [getElem!_pos S.pend i hi]
    exact ⟨h.ok.pend _ (List.getElem_mem hi), h.ok.psizes _ (List.getElem_mem hi)⟩
  obtain ⟨a, c, ep⟩ := h.pval
  have LO := Lib.hid lo
  have hpl := h.plen
  have BU := Lib.hid b
  have EP := Lib.hid ep
  rw [ep] at c2
  clear b h hf hd lo ep
  unfold Ids.ptr at BU ⊢
  go_enter Tryz.func23, Tryz.ntmps23
  go_wp2_with fail
  refine BU.out.mono ?_
  rintro e w1 ⟨rfl, h1, ho1⟩
  obtain ⟨c0, c1, c2, c3, c4⟩ := h1.cells
  rw [EP.out] at c2
  have H1 := Lib.hid h1; have HO1 := Lib.hid ho1
  clear c0 c1 c3 c4 h1 ho1
  go_wp2
  go_loopw [24] (fun i wr => ∃ k : Nat, k ≤ S.pend.length ∧ i = .int .i64 k ∧ Dk wr B I (S.burnt.firmed (apply S.firm (S.pend.take k))) ∧ Out w wr I.foot) (fun i _ => S.pend.length - (intOf i).toNat)
  case atStart => exact ⟨0, Nat.zero_le _, rfl, H1.out, HO1.out⟩
  case round =>
    obtain ⟨k, hk, rfl, hD, hO⟩ := hrel
    by_cases hlt : k < S.pend.length
    · obtain ⟨gp, c', e', hgp, q0, q1⟩ := hD.pcell k hlt
      have e2 := EP.out
      rw [e2] at e'
      injection e' with e3 e4 e5
      subst e3 e5
      have hs1 := (LO.out k hlt)
      rw [getElem!_pos S.pend k hlt] at hs1
      obtain ⟨c0, c1, c2, c3, c4⟩ := hD.cells
      have l1 : (S.burnt.firmed (apply S.firm (S.pend.take k))).firm.length = S.firm.length := apply_length _ _
      rw [l1] at c0
      have hst := apply_take S.firm S.pend k hlt
      have q0' : wr.cell? ⟨gp, k * 2, none⟩ = some (.int .i64 (S.pend[k].1 : Int)) := q0
      have q1' : wr.cell? ⟨gp, k * 2 + 1, none⟩ = some (.string S.pend[k].2) := q1
      have HLT := Lib.hid hlt
      generalize S.pend[k] = pk at *
      obtain ⟨s, d⟩ := pk
      simp only at hs1 hst q0' q1'
      have hs0 := hs1.1
      have hs64 := hs1.2
      have hg := hD.box.lt; have hfl := hD.firm.lt
      have fc := (hD.firm.alloc (.cells #[.int .i64 s, .string d] 93)).cell (i := s) (by rw [List.length_map, l1]; exact hs0)
      rw [List.getElem?_eq_getElem (by rw [List.length_map, l1]; exact hs0)] at fc
      have ff := (hD.firm.alloc (.cells #[.int .i64 s, .string d] 93)).fz s
      have hD2 : Dk ((wr.setCell ⟨I.f, s, none⟩ (.string d)).alloc (.cells #[.int .i64 s, .string d] 93)).drew B I (S.burnt.firmed (apply S.firm (S.pend.take (k + 1)))) := by
        rw [hst]
        exact (hD.setFirm s d (by rw [l1]; exact hs0) hs64).kept (((Below.refl _ _).alloc (Nat.le_refl _) _).drew)
      have hO2 := ((hO.set (q := ⟨I.f, s, none⟩) (fun _ => .inr (.inl rfl)) (.string d)).alloc (.cells #[.int .i64 s, .string d] 93)).drew
      have HD := Lib.hid hD2; have HO := Lib.hid hO2
      clear hD hO hD2 hO2 hst q0 q1 e2 hs1
      go_wp2_with fail
      go_region
      go_wp2
      go_roundw
      case rel => exact ⟨k + 1, HLT.out, by have := HLT.out; go_num, HD.out, HO.out⟩
      case measure => have := HLT.out; simp [intOf]; omega
    · obtain rfl : k = S.pend.length := by omega
      rw [List.take_length] at hD
      obtain ⟨c0, c1, c2, c3, c4⟩ := hD.cells
      have f2 := hD.box.fz 2
      have hD2 : Dk (wr.setCell ⟨I.g, 2, none⟩ (.slice none 0 0)) B (I.with (.slice none 0 0)) S.synced := hD.setNil
      have hO2 := hO.set (q := ⟨I.g, 2, none⟩) (fun _ => .inl rfl) (.slice none 0 0)
      have HD := Lib.hid hD2; have HO := Lib.hid hO2
      clear hD hO hD2 hO2
      go_wp2
      go_ret
      exact ⟨rfl, HD.out, HO.out⟩
end Go.Proofs.YtgafajbdmegfgaaGreat
namespace Go.Proofs.YtgafajbdmegfgaaGreat
open Go.RowKit

theorem Tryz.info5' : (Tryz.prog.info? 5).map (fun i => (i.zero, i.size, i.bytes)) = some (some (.int .u8 0), 1, 1) := by kernel_rfl

def Dsk.barrier (S : Dsk) : Dsk × Int := if S.down = true then (S, 20) else if S.fuel = 0 then ({ S with down := true }, 20) else (S.synced, 0)
theorem barrier_any {w : World} {B : Nat} {I : Ids} {S : Dsk} (h : Dk w B I S) :
    Calls Tryz.prog 23 #[I.ptr] w fun e w' => e = .returned (.int .i64 S.barrier.2) ∧ ∃ p', Dk w' B (I.with p') S.barrier.1 ∧ Out w w' I.foot := by
  unfold Dsk.barrier
  obtain ⟨c0, c1, c2, c3, c4⟩ := h.cells
  rcases hd : S.down with _ | _
  · rw [if_neg (by simp)]
    by_cases hf : S.fuel = 0
    · rw [if_pos hf]
      have b := burn_out h hf
      rw [hd] at c4
      have BU := Lib.hid b
      clear h b hf hd
      unfold Ids.ptr at BU ⊢
      go_enter Tryz.func23, Tryz.ntmps23
      go_wp2_with fail
      refine BU.out.mono ?_
      rintro e w1 ⟨rfl, h1, ho1⟩
      have H1 := Lib.hid h1; have HO1 := Lib.hid ho1; clear h1 ho1
      go_wp2
      go_ret
      exact ⟨rfl, I.p, H1.out, HO1.out⟩
    · rw [if_neg hf]
      refine (barrier_good h hd hf).mono ?_
      rintro e w1 ⟨he, h1, h2⟩
      exact ⟨he, _, h1, h2⟩
  · rw [if_pos rfl]
    rw [hd] at c4
    have H := Lib.hid h
    clear h hd
    unfold Ids.ptr
    go_enter Tryz.func23, Tryz.ntmps23
    go_wp2
    go_ret
    exact ⟨rfl, I.p, H.out, Out.refl _ _⟩

/-- A sector's bytes, or some that are none. -/
def pad (s : ByteArray) : ByteArray := if 64 < s.size ∨ s.size = 63 then s else s ++ Fr.zs (64 - s.size)
/-- A device as it is new. -/
def Dsk.start (zs : List ByteArray) : Dsk := ⟨zs, zs, [], -1, false⟩
theorem start_ok {zs : List ByteArray} (h1 : 1 ≤ zs.length) (h2 : zs.length ≤ 16384) (hs : ∀ i, i < zs.length → (zs.getD i ⟨#[]⟩).size = 64) : (Dsk.start zs).ok :=
  ⟨rfl, h1, h2, fun p hp => by simp [Dsk.start] at hp, by show (-1 : Int) ≤ -1; omega, by show (-1 : Int) ≤ 9223372036854775807; omega, hs, hs, fun p hp => by simp [Dsk.start] at hp⟩
set_option maxHeartbeats 1000000 in
theorem over_any (w : World) (B f fc : Nat) (zs : List ByteArray) (hf : Rw w f 9 (zs.map .string)) (h1 : 1 ≤ zs.length) (h2 : zs.length ≤ 16384) (hs : ∀ i, i < zs.length → (zs.getD i ⟨#[]⟩).size = 64) (hB : B ≤ f) :
    Calls Tryz.prog 18 #[.slice (some ⟨f, 0, none⟩) zs.length fc] w fun e w' => ∃ I : Ids, e = .returned I.ptr ∧ I.f = f ∧ Dk w' B I (.start zs) ∧ Below w.heap.size w w' ∧ w.heap.size ≤ I.g ∧ w.heap.size ≤ I.n ∧ I.p = .slice none 0 0 := by
  have c := clone_any f zs.length fc zs w rfl (by omega) (fun j hj => by
    rw [hf.cell (i := j) (by simpa using hj), List.getElem?_map, List.getD_eq_getElem?_getD, List.getElem?_eq_getElem hj]; rfl)
  have C := Lib.hid c; have HF := Lib.hid hf; have HS := Lib.hid hs
  clear c hf hs
  go_enter Tryz.func18, Tryz.ntmps18
  go_wp2_with fail
  refine C.out.mono ?_
  rintro e w1 ⟨v', rfl, hown, hne, hb⟩
  obtain ⟨n, nc, cur, rfl, hn, hh, hle, hm, hcs, ht⟩ : ∃ g cap cur, v' = .slice (some ⟨g, 0, none⟩) zs.length cap ∧ w.heap.size ≤ g ∧ w1.heap[g]? = some (.cells cur 9 (0, 0)) ∧ zs.length ≤ cap ∧ cap ≤ maxLen ∧ cur.size = cap * 1 ∧ cur.toList.take (zs.length * 1) = zs.map .string := by
    rcases hown.2 with ⟨_, e⟩ | h
    · omega
    · exact h
  have hlt := HF.out.lt
  have f1 : Rw (w1.alloc (.cells (Ids.box ⟨w1.heap.size, f, n, fc, nc, .slice none 0 0⟩ (.start zs)) 78)) f 9 (zs.map .string) := (HF.out.kept hb).alloc _
  have n1 : Rw (w1.alloc (.cells (Ids.box ⟨w1.heap.size, f, n, fc, nc, .slice none 0 0⟩ (.start zs)) 78)) n 9 (zs.map .string) := Rw.alloc ⟨cur, hh, by simpa using ht⟩ _
  have hD : Dk (w1.alloc (.cells (Ids.box ⟨w1.heap.size, f, n, fc, nc, .slice none 0 0⟩ (.start zs)) 78)) B ⟨w1.heap.size, f, n, fc, nc, .slice none 0 0⟩ (.start zs) :=
    ⟨Bk.new _ _ _, f1, n1, World.ownsRow_nil _ _ _ _, by show f ≠ n; omega, by show B ≤ w1.heap.size; have := hb.size; omega, hB, by show B ≤ n; omega, start_ok h1 h2 HS.out⟩
  have hB1 : Below w.heap.size w (w1.alloc (.cells (Ids.box ⟨w1.heap.size, f, n, fc, nc, .slice none 0 0⟩ (.start zs)) 78)) := hb.alloc hb.size _
  have HD := Lib.hid hD; have HB1 := Lib.hid hB1; have HSZ := Lib.hid hb.size
  clear f1 n1 hD hB1 hown hne hb hh ht
  go_wp2
  go_ret
  exact ⟨⟨w1.heap.size, f, n, fc, nc, .slice none 0 0⟩, rfl, rfl, HD.out, HB1.out, HSZ.out, hn, rfl⟩

def blanks (k : Nat) : List ByteArray := List.replicate k (Fr.zs 64)
set_option maxHeartbeats 1000000 in
theorem new_good (k : Nat) (w : World) (h1 : 1 ≤ k) (h2 : k ≤ 16384) :
    Calls Tryz.prog 5 #[.int .i64 k] w fun e w' => ∃ I : Ids, e = .returned (.tuple #[I.ptr, .int .i64 0]) ∧ Dk w' w.heap.size I (.start (blanks k)) ∧ Below w.heap.size w w' := by
  obtain ⟨i0, hi, hz0, hz1, hz2⟩ := info_parts Tryz.info5'
  have hmk := fun wx => run_make (P := Tryz.prog) wx 63 5 i0 (.int .u8 0) Tryz.underlying63 hi hz0 .i64 .i64 64 64 (by omega) (by omega) (by rw [hz2]; omega) (by omega)
  simp only [hz1, Nat.mul_one, Value.cells, show (64 : Int).toNat = 64 from rfl, show madeCells #[Value.int .u8 0] 64 = Fr.zc 64 from rfl] at hmk
  clear hi hz0 hz1 hz2
  have hst := fun wx => Fr.run_zeros (P := Tryz.prog) wx 63 9 5 64 Tryz.underlying63 Tryz.underlying5 Tryz.underlying9
  have z64 : (Fr.zs 64).size = 64 := Fr.zs_size 64
  unfold blanks
  generalize Fr.zs 64 = z at *
  go_enter Tryz.func5, Tryz.ntmps5
  go_wp2_with fail
  refine (repeat_any (w.heap.size + 1) z k _ h1 h2 ((Bk.new2 w (.cells (Fr.zc 64) 5) 9 #[.string z]).cell 0)).mono ?_
  rintro e w1 ⟨rfl, hbk, hb⟩
  have hB1 : Below w.heap.size w w1 := below_then (((Below.refl _ _).alloc (Nat.le_refl _) _).alloc (by simp) _) hb (by simp; omega)
  have hr : Rw w1 ((w.alloc (.cells (Fr.zc 64) 5)).alloc (.cells #[.string z] 9)).heap.size 9 ((List.replicate k z).map .string) := ⟨_, hbk, by simp [rp]⟩
  have o := over_any w1 w.heap.size _ k (List.replicate k z) hr (by simpa using h1) (by simpa using h2) (fun i hi => by rw [List.getD_eq_getElem?_getD, List.getElem?_eq_getElem hi]; simpa using z64) (by simp; omega)
  rw [List.length_replicate] at o
  simp only [World.size_alloc] at o
  have O := Lib.hid o; have HB1 := Lib.hid hB1
  clear o hr hbk hb hB1
  go_wp2_with fail
  refine O.out.mono ?_
  rintro e w2 ⟨I, rfl, _, hd, hb2, _⟩
  have HD := Lib.hid hd; have HB2 := Lib.hid (below_then HB1.out hb2 HB1.out.size); clear hd hb2
  unfold Ids.ptr
  go_wp2
  go_ret2
  exact ⟨I, rfl, HD.out, HB2.out⟩
theorem new_bad (k : Int) (w : World) (h : k < 1 ∨ 16384 < k) :
    Calls Tryz.prog 5 #[.int .i64 k] w fun e w' => e = .returned (.tuple #[.pointer none, .int .i64 1]) ∧ w' = w := by
  rcases h with h | h
  all_goals
    go_enter Tryz.func5, Tryz.ntmps5
    go_wp2
    go_ret2
    exact ⟨rfl, rfl⟩
end Go.Proofs.YtgafajbdmegfgaaGreat
