/- The walk of logrec.Decode. -/
import Derived.Test.YtggabnmfjooejaaRecDecPlain
import Derived.Test.YtggabnmfjooejaaApp1
import Derived.OwnWalk
import Derived.Deep.RegionLaw
import Derived.Deep.AppendLies
set_option linter.unusedVariables false
set_option linter.unusedSimpArgs false
namespace Go.Proofs.Ytggabnmfjooejaa
open Go.RowKit Go.BigFrame

theorem Try.info51 : (Try.prog.info? 51).map (fun i => (i.zero, i.size, i.bytes)) = some (some (.agg Im.zero.cs), 17, 184) := by kernel_rfl
theorem Try.info54 : (Try.prog.info? 54).map (fun i => (i.zero, i.size, i.bytes)) = some (some (.agg #[.int .i64 0, .int .i64 0, .int .i64 0]), 3, 24) := by kernel_rfl
theorem owns_of_block {w w' : World} {base : Nat} {e : TypeId} {size : Nat} {v : Value} {n : Nat} {xs : List Value} (h : w.ownsRow base e size v n xs) (hb : ∀ k, v.ownBlock = some k → w'.heap[k]? = w.heap[k]?) : w'.ownsRow base e size v n xs := by
  obtain ⟨h1, h2⟩ := h
  refine ⟨h1, ?_⟩
  rcases h2 with h | ⟨g, cap, cur, rfl, hg, hh, r⟩
  · exact .inl h
  · exact .inr ⟨g, cap, cur, rfl, hg, (hb g rfl).trans hh, r⟩
theorem owns_far {w : World} {base : Nat} {e : TypeId} {size : Nat} {v : Value} {n : Nat} {xs : List Value} (h : w.ownsRow base e size v n xs) {p : Addr} (hp : p.block < base) (u : Value) : (w.setCell p u).ownsRow base e size v n xs :=
  owns_of_block h fun k hk => Below.heap_setCell w p u k (by have := (h.lt k hk).1; omega)
theorem owns_grown {w w' : World} {base : Nat} {e : TypeId} {size : Nat} {v : Value} {n : Nat} {xs : List Value} (h : w.ownsRow base e size v n xs) {g : Nat} (hg : w.grownBy w' (some g)) (hb : g < base) : w'.ownsRow base e size v n xs :=
  owns_of_block h fun k hk => hg.block k (h.lt k hk).2 (fun e => by injection e with e; have := (h.lt k hk).1; omega)
theorem owns_kept {w w' : World} {base : Nat} {e : TypeId} {size : Nat} {v : Value} {n : Nat} {xs : List Value} (h : w.ownsRow base e size v n xs) (hb : Below w.heap.size w w') : w'.ownsRow base e size v n xs :=
  owns_of_block h fun k hk => hb.block k (h.lt k hk).2
theorem owns_slice {w : World} {base : Nat} {e : TypeId} {size : Nat} {v : Value} {n : Nat} {xs : List Value} (h : w.ownsRow base e size v n xs) : ∃ a c, v = .slice a n c := by
  rcases h.2 with ⟨rfl, rfl⟩ | ⟨g, cap, cur, rfl, _⟩
  · exact ⟨none, 0, rfl⟩
  · exact ⟨_, _, rfl⟩
theorem owns_blk {w : World} {base : Nat} {e : TypeId} {size : Nat} {v : Value} {n : Nat} {xs : List Value} (h : w.ownsRow base e size v n xs) {k : Nat} (hk : v.ownBlock = some k) : base ≤ k ∧ k < w.heap.size ∧ ∃ cur, Bk w k e cur := by
  rcases h.2 with ⟨rfl, _⟩ | ⟨g, cap, cur, rfl, hg, hh, r⟩
  · simp [Value.ownBlock] at hk
  · simp [Value.ownBlock] at hk
    subst hk
    exact ⟨hg, Bk.lt hh, cur, hh⟩
theorem rec_cells14 {r : Rc} {vi vl : Value} {cs : Array Value} (h : r.cs vi vl = cs) {w : World} {B n m : Nat} {im : Nat → Im} {al : Nat → Al} (hi : ImAt w B vi n im) (hl : AlAt w B vl m al) : cs.all (·.oneCell') = true := by
  obtain ⟨a, c, rfl, _⟩ := hi
  obtain ⟨b, d, rfl, _⟩ := hl
  subst h
  simp [Value.oneCell', Rc.cs]
def imL (im : Nat → Im) : Nat → List Value
  | 0 => []
  | j + 1 => imL im j ++ (im j).cs.toList
def alL (al : Nat → Al) : Nat → List Value
  | 0 => []
  | j + 1 => alL al j ++ (al j).cs.toList
theorem imL_len (im : Nat → Im) : ∀ n, (imL im n).length = 17 * n
  | 0 => rfl
  | n + 1 => by unfold imL; rw [List.length_append, imL_len im n]; simp [Im.cs]; omega
theorem alL_len (al : Nat → Al) : ∀ n, (alL al n).length = 3 * n
  | 0 => rfl
  | n + 1 => by unfold alL; rw [List.length_append, alL_len al n]; simp [Al.cs]; omega
theorem imL_get (im : Nat → Im) : ∀ n i, i < n → ∀ j u, (im i).cs.toList[j]? = some u → (imL im n)[i * 17 + j]? = some u
  | n + 1, i, hi, j, u, hu => by
    have hj : j < 17 := by have := (List.getElem?_eq_some_iff.1 hu).1; simpa [Im.cs] using this
    unfold imL
    rcases Nat.lt_or_ge i n with g | g
    · rw [List.getElem?_append_left (by rw [imL_len]; omega)]
      exact imL_get im n i g j u hu
    · obtain rfl : i = n := by omega
      rw [List.getElem?_append_right (by rw [imL_len]; omega), imL_len, show i * 17 + j - 17 * i = j by omega]
      exact hu
theorem alL_get (al : Nat → Al) : ∀ n i, i < n → ∀ j u, (al i).cs.toList[j]? = some u → (alL al n)[i * 3 + j]? = some u
  | n + 1, i, hi, j, u, hu => by
    have hj : j < 3 := by have := (List.getElem?_eq_some_iff.1 hu).1; simpa [Al.cs] using this
    unfold alL
    rcases Nat.lt_or_ge i n with g | g
    · rw [List.getElem?_append_left (by rw [alL_len]; omega)]
      exact alL_get al n i g j u hu
    · obtain rfl : i = n := by omega
      rw [List.getElem?_append_right (by rw [alL_len]; omega), alL_len, show i * 3 + j - 3 * i = j by omega]
      exact hu
theorem im_own {w : World} {base : Nat} {v : Value} {n : Nat} {im : Nat → Im} (h : w.ownsRow base 51 17 v n (imL im n)) (hn : n ≤ maxLen) : ImAt w w.heap.size v n im := by
  rcases h.2 with ⟨rfl, rfl⟩ | ⟨g, cap, cur, rfl, r⟩
  · exact im_none _ _ _
  · refine ⟨some ⟨g, 0, none⟩, cap, rfl, hn, fun _ => ⟨g, 0, rfl, (h.lt g rfl).2, fun i hi j u hu => ?_⟩⟩
    have := h.cells (g := g) rfl (i * 17 + j) u (imL_get im n i hi j u hu)
    rw [Addr.add_lit] at this
    rw [Nat.add_assoc]
    exact this
theorem al_own {w : World} {base : Nat} {v : Value} {n : Nat} {al : Nat → Al} (h : w.ownsRow base 54 3 v n (alL al n)) (hn : n ≤ maxLen) : AlAt w w.heap.size v n al := by
  rcases h.2 with ⟨rfl, rfl⟩ | ⟨g, cap, cur, rfl, r⟩
  · exact al_none _ _ _
  · refine ⟨some ⟨g, 0, none⟩, cap, rfl, hn, fun _ => ⟨g, 0, rfl, (h.lt g rfl).2, fun i hi j u hu => ?_⟩⟩
    have := h.cells (g := g) rfl (i * 3 + j) u (alL_get al n i hi j u hu)
    rw [Addr.add_lit] at this
    rw [Nat.add_assoc]
    exact this
theorem ist_size (s : Oct.Rs) : ∀ j, ((ist s j).getD ⟨#[]⟩).size ≤ (s.getD ⟨#[]⟩).size
  | 0 => Nat.le_refl _
  | j + 1 => Nat.le_trans (rbytes_size _ _) (Nat.le_trans (rnx_size _ _) (ist_size s j))
theorem lst_size (s : Oct.Rs) : ∀ j, ((lst s j).getD ⟨#[]⟩).size ≤ (s.getD ⟨#[]⟩).size
  | 0 => Nat.le_refl _
  | j + 1 => Nat.le_trans (rnx_size _ _) (Nat.le_trans (rnx_size _ _) (Nat.le_trans (rnx_size _ _) (lst_size s j)))

theorem page_load0 {w : World} {g : Nat} {p : Pg} (h : Bk w g 49 p.cs) : (loadVar 49 ⟨g, 0, none⟩).run Try.prog w = .ok (.agg p.cs) w :=
  part_load Try.underlying49 w g 0 p.cs page_info fun j u hj => by rw [Nat.zero_add, h.cell]; simpa using hj

/-- What Decode knows at any moment behind its start: the result's block, the reader's, the record's. -/
structure DI (w : World) (L : Nat) (cs : Array Value) (st : Oct.Rs) (wr : World) : Prop where
  rd : RdSt wr (w.heap.size + 1) st
  res : Bk wr w.heap.size 29 (Rc.zero.cs nil_ nil_)
  ro : Bk wr L 29 cs
  bel : Below w.heap.size w wr
  gt : w.heap.size + 1 < L
theorem DI.grown {w : World} {L : Nat} {cs : Array Value} {st st' : Oct.Rs} {wr w' : World} (h : DI w L cs st wr) (hr : RdSt w' (w.heap.size + 1) st') (hg : wr.grownBy w' (some (w.heap.size + 1))) : DI w L cs st' w' :=
  ⟨hr, h.res.grown hg (by simp), h.ro.grown hg (by have := h.gt; simp; omega), h.bel.grown hg h.bel.size (by intro k hk; simp at hk; omega), h.gt⟩
theorem DI.kept {w : World} {L : Nat} {cs : Array Value} {st : Oct.Rs} {wr w' : World} (h : DI w L cs st wr) (hb : Below wr.heap.size wr w') : DI w L cs st w' :=
  ⟨(hb.block _ (RdAt.lt h.rd)).trans h.rd, h.res.kept hb, h.ro.kept hb, below_then h.bel hb h.bel.size, h.gt⟩
theorem DI.drew {w : World} {L : Nat} {cs : Array Value} {st : Oct.Rs} {wr : World} (h : DI w L cs st wr) : DI w L cs st wr.drew := ⟨h.rd, h.res, h.ro, h.bel.drew, h.gt⟩
theorem DI.alloc {w : World} {L : Nat} {cs : Array Value} {st : Oct.Rs} {wr : World} (h : DI w L cs st wr) (o : Obj) : DI w L cs st (wr.alloc o) := h.kept ((Below.refl _ _).alloc (Nat.le_refl _) o)
theorem DI.row {w : World} {L : Nat} {cs : Array Value} {st : Oct.Rs} {wr w' : World} (h : DI w L cs st wr) {row : Option Nat} (hg : wr.grownBy w' row) (hrow : ∀ k, row = some k → L < k) : DI w L cs st w' :=
  ⟨(hg.block _ (RdAt.lt h.rd) (fun e => by have := hrow _ e.symm; have := h.gt; omega)).trans h.rd, h.res.grown hg (fun e => by have := hrow _ e.symm; have := h.gt; omega), h.ro.grown hg (fun e => by have := hrow _ e.symm; omega),
    h.bel.grown hg h.bel.size (fun k hk => by have := hrow k hk; have := h.gt; omega), h.gt⟩
theorem DI.set {w : World} {L : Nat} {cs : Array Value} {st : Oct.Rs} {wr : World} (h : DI w L cs st wr) (i : Nat) (u : Value) : DI w L (cs.setIfInBounds i u) st (wr.setCell ⟨L, i, none⟩ u) :=
  ⟨h.rd.far (p := ⟨L, i, none⟩) (by have := h.gt; show w.heap.size + 1 ≠ L; omega) u, h.res.far (p := ⟨L, i, none⟩) (by have := h.gt; show w.heap.size ≠ L; omega) u, h.ro.set i u, h.bel.setCell (p := ⟨L, i, none⟩) (by have := h.gt; show w.heap.size ≤ L; omega) u, h.gt⟩

def DecPost (S : ByteArray) (w : World) (e : Ending) (w' : World) : Prop :=
  (∃ vi vl, decOk S ∧ e = .returned (.tuple #[.agg ((Rc.of S).cs vi vl), .int .i64 0]) ∧ ImAt w' w'.heap.size vi (Rc.of S).ni (Rc.of S).im ∧ AlAt w' w'.heap.size vl (Rc.of S).nl (Rc.of S).al ∧ Below w.heap.size w w') ∨
  (¬ decOk S ∧ e = .returned (.tuple #[.agg (Rc.zero.cs nil_ nil_), .int .i64 40]) ∧ Below w.heap.size w w')

set_option maxRecDepth 100000 in
set_option maxHeartbeats 8000000 in
theorem ldecode_any (S : ByteArray) (w : World) (hs : S.size ≤ maxLen) :
    Calls Try.prog 13 #[.string S] w (DecPost S w) := by
  have CR := Lib.hid (fun w => rd_read S w)
  have B0 := Lib.hid ((Below.refl w.heap.size w).alloc (Nat.le_refl _) (.cells (Rc.zero.cs nil_ nil_) 29))
  have KA := Lib.hid (Bk.new w 29 (Rc.zero.cs nil_ nil_))
  have HS := Lib.hid hs
  clear hs
  unfold Rc.cs nil_ at *
  go_enter Try.func13, Try.ntmps13
  go_wp2_with fail
  refine (CR.out _).mono ?_
  rintro e w2 ⟨rfl, hr2, hb2, hl2⟩
  have R2 := Lib.hid hr2; have KA2 := Lib.hid (KA.out.kept hb2); have B2 := Lib.hid (below_then B0.out hb2 B0.out.size)
  simp only [World.size_alloc] at hl2
  have GL := Lib.hid hl2
  clear hb2 hr2 hl2 CR KA B0
  go_wp2_with fail
  have HW := Lib.hid (show w.heap.size + 1 < w2.heap.size from GL.out)
  have X0 := Lib.hid (show RdSt (w2.alloc (.cells #[Value.int .i64 Rc.zero.k, .int .i64 Rc.zero.x, .int .i64 Rc.zero.pv, .int .i64 Rc.zero.nx, .int .i64 Rc.zero.u.k, .int .i64 Rc.zero.u.st, .int .i64 Rc.zero.u.pg, .int .i64 Rc.zero.u.sl, .string Rc.zero.u.key, .int .i64 Rc.zero.u.bs, .string Rc.zero.u.bd, .slice none 0 0, .slice none 0 0, .int .i64 Rc.zero.fr] 29)) (w.heap.size + 1) (some S) from by
    have := R2.out
    rw [World.size_alloc] at this
    exact RdAt.below this ((Below.refl _ _).alloc (Nat.le_refl _) _) GL.out)
  have A0 := Lib.hid (KA2.out.alloc (.cells #[Value.int .i64 Rc.zero.k, .int .i64 Rc.zero.x, .int .i64 Rc.zero.pv, .int .i64 Rc.zero.nx, .int .i64 Rc.zero.u.k, .int .i64 Rc.zero.u.st, .int .i64 Rc.zero.u.pg, .int .i64 Rc.zero.u.sl, .string Rc.zero.u.key, .int .i64 Rc.zero.u.bs, .string Rc.zero.u.bd, .slice none 0 0, .slice none 0 0, .int .i64 Rc.zero.fr] 29))
  have L0 := Lib.hid (Bk.new w2 29 #[Value.int .i64 Rc.zero.k, .int .i64 Rc.zero.x, .int .i64 Rc.zero.pv, .int .i64 Rc.zero.nx, .int .i64 Rc.zero.u.k, .int .i64 Rc.zero.u.st, .int .i64 Rc.zero.u.pg, .int .i64 Rc.zero.u.sl, .string Rc.zero.u.key, .int .i64 Rc.zero.u.bs, .string Rc.zero.u.bd, .slice none 0 0, .slice none 0 0, .int .i64 Rc.zero.fr])
  have D0 := Lib.hid (B2.out.alloc B2.out.size (.cells #[Value.int .i64 Rc.zero.k, .int .i64 Rc.zero.x, .int .i64 Rc.zero.pv, .int .i64 Rc.zero.nx, .int .i64 Rc.zero.u.k, .int .i64 Rc.zero.u.st, .int .i64 Rc.zero.u.pg, .int .i64 Rc.zero.u.sl, .string Rc.zero.u.key, .int .i64 Rc.zero.u.bs, .string Rc.zero.u.bd, .slice none 0 0, .slice none 0 0, .int .i64 Rc.zero.fr] 29))
  have Z0 := Lib.hid (show ((some S : Oct.Rs).getD ⟨#[]⟩).size ≤ maxLen from HS.out)
  clear R2 KA2 B2
  have Z1 := Lib.hid (Nat.le_trans (rnx_size (some S) 1) Z0.out)
  refine (next_any (w.heap.size + 1) 1 _ _ X0.out Z0.out).mono ?_
  rintro e v1 ⟨rfl, r1, g1⟩
  have X1 := Lib.hid r1; have A1 := Lib.hid (A0.out.grown g1 (by simp)); have L1 := Lib.hid (L0.out.grown g1 (by have := HW.out; simp; omega)); have D1 := Lib.hid (D0.out.grown g1 D0.out.size (by intro k hk; simp at hk; omega))
  clear r1 g1 X0 A0 L0 D0
  go_wp2_with fail
  have Z2 := Lib.hid (Nat.le_trans (rnx_size (rnx (some S) 1) 4) Z1.out)
  refine (next_any (w.heap.size + 1) 4 _ _ X1.out Z1.out).mono ?_
  rintro e v2 ⟨rfl, r1, g1⟩
  have X2 := Lib.hid r1; have A2 := Lib.hid (A1.out.grown g1 (by simp)); have L2 := Lib.hid (L1.out.grown g1 (by have := HW.out; simp; omega)); have D2 := Lib.hid (D1.out.grown g1 D1.out.size (by intro k hk; simp at hk; omega))
  clear r1 g1 X1 A1 L1 D1
  go_wp2_with fail
  have Z3 := Lib.hid (Nat.le_trans (rnx_size (rnx (rnx (some S) 1) 4) 8) Z2.out)
  refine (next_any (w.heap.size + 1) 8 _ _ X2.out Z2.out).mono ?_
  rintro e v3 ⟨rfl, r1, g1⟩
  have X3 := Lib.hid r1; have A3 := Lib.hid (A2.out.grown g1 (by simp)); have L3 := Lib.hid (L2.out.grown g1 (by have := HW.out; simp; omega)); have D3 := Lib.hid (D2.out.grown g1 D2.out.size (by intro k hk; simp at hk; omega))
  clear r1 g1 X2 A2 L2 D2
  go_wp2_with fail
  have Z4 := Lib.hid (Nat.le_trans (rnx_size (rnx (rnx (rnx (some S) 1) 4) 8) 8) Z3.out)
  refine (next_any (w.heap.size + 1) 8 _ _ X3.out Z3.out).mono ?_
  rintro e v4 ⟨rfl, r1, g1⟩
  have X4 := Lib.hid r1; have A4 := Lib.hid (A3.out.grown g1 (by simp)); have L4 := Lib.hid (L3.out.grown g1 (by have := HW.out; simp; omega)); have D4 := Lib.hid (D3.out.grown g1 D3.out.size (by intro k hk; simp at hk; omega))
  clear r1 g1 X3 A3 L3 D3
  go_wp2_with fail
  have Z5 := Lib.hid (Nat.le_trans (rnx_size (rnx (rnx (rnx (rnx (some S) 1) 4) 8) 8) 4) Z4.out)
  refine (next_any (w.heap.size + 1) 4 _ _ X4.out Z4.out).mono ?_
  rintro e v5 ⟨rfl, r1, g1⟩
  have X5 := Lib.hid r1; have A5 := Lib.hid (A4.out.grown g1 (by simp)); have L5 := Lib.hid (L4.out.grown g1 (by have := HW.out; simp; omega)); have D5 := Lib.hid (D4.out.grown g1 D4.out.size (by intro k hk; simp at hk; omega))
  clear r1 g1 X4 A4 L4 D4
  generalize hst5 : (rnx (rnx (rnx (rnx (rnx (some S) 1) 4) 8) 8) 4) = st5 at *
  have HST5 := Lib.hid hst5
  clear hst5
  generalize hq0 : rint (some S) 1 = q0 at *
  generalize hq1 : rint (rnx (some S) 1) 4 = q1 at *
  generalize hq2 : rint (rnx (rnx (some S) 1) 4) 8 = q2 at *
  generalize hq3 : rint (rnx (rnx (rnx (some S) 1) 4) 8) 8 = q3 at *
  generalize hq4 : rint (rnx (rnx (rnx (rnx (some S) 1) 4) 8) 8) 4 = q4 at *
  have HQ := Lib.hid (And.intro hq0 (And.intro hq1 (And.intro hq2 (And.intro hq3 hq4))))
  clear hq0 hq1 hq2 hq3 hq4
  have z0 := L5.out.cell 0; have y0 := L5.out.fz 0
  have z1 := L5.out.cell 1; have y1 := L5.out.fz 1
  have z2 := L5.out.cell 2; have y2 := L5.out.fz 2
  have z3 := L5.out.cell 3; have y3 := L5.out.fz 3
  have z4 := L5.out.cell 13; have y4 := L5.out.fz 13
  simp only [List.getElem?_toArray, List.getElem?_cons_zero, List.getElem?_cons_succ] at z0 z1 z2 z3 z4
  have hna : w.heap.size ≠ w2.heap.size := by have := HW.out; omega
  have hng : w.heap.size + 1 ≠ w2.heap.size := by have := HW.out; omega
  have hge : w.heap.size ≤ w2.heap.size := by have := HW.out; omega
  have HNA := Lib.hid hna; have HNG := Lib.hid hng; have HGE := Lib.hid hge
  have X6 := Lib.hid ((RdSt.far (RdSt.far (RdSt.far (RdSt.far (RdSt.far X5.out (p := ⟨w2.heap.size, 0, none⟩) hng (.int .i64 q0)) (p := ⟨w2.heap.size, 1, none⟩) hng (.int .i64 q1)) (p := ⟨w2.heap.size, 2, none⟩) hng (.int .i64 q2)) (p := ⟨w2.heap.size, 3, none⟩) hng (.int .i64 q3)) (p := ⟨w2.heap.size, 13, none⟩) hng (.int .i64 q4)))
  have A6 := Lib.hid ((Bk.far (Bk.far (Bk.far (Bk.far (Bk.far A5.out (p := ⟨w2.heap.size, 0, none⟩) hna (.int .i64 q0)) (p := ⟨w2.heap.size, 1, none⟩) hna (.int .i64 q1)) (p := ⟨w2.heap.size, 2, none⟩) hna (.int .i64 q2)) (p := ⟨w2.heap.size, 3, none⟩) hna (.int .i64 q3)) (p := ⟨w2.heap.size, 13, none⟩) hna (.int .i64 q4)))
  have D6 := Lib.hid ((Below.setCell (Below.setCell (Below.setCell (Below.setCell (Below.setCell D5.out (p := ⟨w2.heap.size, 0, none⟩) hge (.int .i64 q0)) (p := ⟨w2.heap.size, 1, none⟩) hge (.int .i64 q1)) (p := ⟨w2.heap.size, 2, none⟩) hge (.int .i64 q2)) (p := ⟨w2.heap.size, 3, none⟩) hge (.int .i64 q3)) (p := ⟨w2.heap.size, 13, none⟩) hge (.int .i64 q4)))
  have L6 := Lib.hid (show Bk (((((v5.setCell ⟨w2.heap.size, 0, none⟩ (.int .i64 q0)).setCell ⟨w2.heap.size, 1, none⟩ (.int .i64 q1)).setCell ⟨w2.heap.size, 2, none⟩ (.int .i64 q2)).setCell ⟨w2.heap.size, 3, none⟩ (.int .i64 q3)).setCell ⟨w2.heap.size, 13, none⟩ (.int .i64 q4)) w2.heap.size 29 #[.int .i64 q0, .int .i64 q1, .int .i64 q2, .int .i64 q3, .int .i64 Rc.zero.u.k, .int .i64 Rc.zero.u.st, .int .i64 Rc.zero.u.pg, .int .i64 Rc.zero.u.sl, .string Rc.zero.u.key, .int .i64 Rc.zero.u.bs, .string Rc.zero.u.bd, .slice none 0 0, .slice none 0 0, .int .i64 q4] from (Bk.set (Bk.set (Bk.set (Bk.set (Bk.set L5.out 0 (.int .i64 q0)) 1 (.int .i64 q1)) 2 (.int .i64 q2)) 3 (.int .i64 q3)) 13 (.int .i64 q4)))
  clear X5 A5 L5 D5
  go_wp2_with fail
  clear z0 z1 z2 z3 z4 y0 y1 y2 y3 y4 hna hng hge
  generalize (((((v5.setCell ⟨w2.heap.size, 0, none⟩ (.int .i64 q0)).setCell ⟨w2.heap.size, 1, none⟩ (.int .i64 q1)).setCell ⟨w2.heap.size, 2, none⟩ (.int .i64 q2)).setCell ⟨w2.heap.size, 3, none⟩ (.int .i64 q3)).setCell ⟨w2.heap.size, 13, none⟩ (.int .i64 q4)) = v6 at *
  refine (readUndo_any (w.heap.size + 1) st5 v6 X6.out Z5.out).mono ?_
  rintro e v7 ⟨rfl, r1, g1⟩
  have ZU := Lib.hid (Nat.le_trans (rundo_size st5) Z5.out)
  have X7 := Lib.hid r1; have A7 := Lib.hid (A6.out.grown g1 (by simp)); have L7 := Lib.hid (L6.out.grown g1 (by have := HW.out; simp; omega)); have D7 := Lib.hid (D6.out.grown g1 D6.out.size (by intro k hk; simp at hk; omega))
  clear r1 g1 X6 A6 L6 D6
  generalize hru : rundo st5 = ru at *
  obtain ⟨u, st6⟩ := ru
  have HRU := Lib.hid hru
  clear hru
  dsimp only at X7 ZU ⊢
  have hth : v7.there w2.heap.size 4 u.cs.size := fun j hj => ⟨by
    rw [L7.out.cell]
    have : j < 7 := hj
    have : j = 0 ∨ j = 1 ∨ j = 2 ∨ j = 3 ∨ j = 4 ∨ j = 5 ∨ j = 6 := by omega
    rcases this with rfl | rfl | rfl | rfl | rfl | rfl | rfl <;> rfl, L7.out.fz _⟩
  have HTH := Lib.hid hth
  clear hth
  have hW : (v7.setCells w2.heap.size 4 u.cs.toList) = (((((((v7.setCell ⟨w2.heap.size, 4, none⟩ (.int .i64 u.k)).setCell ⟨w2.heap.size, 5, none⟩ (.int .i64 u.st)).setCell ⟨w2.heap.size, 6, none⟩ (.int .i64 u.pg)).setCell ⟨w2.heap.size, 7, none⟩ (.int .i64 u.sl)).setCell ⟨w2.heap.size, 8, none⟩ (.string u.key)).setCell ⟨w2.heap.size, 9, none⟩ (.int .i64 u.bs)).setCell ⟨w2.heap.size, 10, none⟩ (.string u.bd)) := rfl
  have hna := HNA.out; have hng := HNG.out; have hge := HGE.out
  have X8 := Lib.hid (show RdSt (v7.setCells w2.heap.size 4 u.cs.toList) (w.heap.size + 1) st6 from hW ▸ (RdSt.far (RdSt.far (RdSt.far (RdSt.far (RdSt.far (RdSt.far (RdSt.far X7.out (p := ⟨w2.heap.size, 4, none⟩) hng (.int .i64 u.k)) (p := ⟨w2.heap.size, 5, none⟩) hng (.int .i64 u.st)) (p := ⟨w2.heap.size, 6, none⟩) hng (.int .i64 u.pg)) (p := ⟨w2.heap.size, 7, none⟩) hng (.int .i64 u.sl)) (p := ⟨w2.heap.size, 8, none⟩) hng (.string u.key)) (p := ⟨w2.heap.size, 9, none⟩) hng (.int .i64 u.bs)) (p := ⟨w2.heap.size, 10, none⟩) hng (.string u.bd)))
  have A8 := Lib.hid (show Bk (v7.setCells w2.heap.size 4 u.cs.toList) w.heap.size _ _ from hW ▸ (Bk.far (Bk.far (Bk.far (Bk.far (Bk.far (Bk.far (Bk.far A7.out (p := ⟨w2.heap.size, 4, none⟩) hna (.int .i64 u.k)) (p := ⟨w2.heap.size, 5, none⟩) hna (.int .i64 u.st)) (p := ⟨w2.heap.size, 6, none⟩) hna (.int .i64 u.pg)) (p := ⟨w2.heap.size, 7, none⟩) hna (.int .i64 u.sl)) (p := ⟨w2.heap.size, 8, none⟩) hna (.string u.key)) (p := ⟨w2.heap.size, 9, none⟩) hna (.int .i64 u.bs)) (p := ⟨w2.heap.size, 10, none⟩) hna (.string u.bd)))
  have D8 := Lib.hid (show Below w.heap.size w (v7.setCells w2.heap.size 4 u.cs.toList) from hW ▸ (Below.setCell (Below.setCell (Below.setCell (Below.setCell (Below.setCell (Below.setCell (Below.setCell D7.out (p := ⟨w2.heap.size, 4, none⟩) hge (.int .i64 u.k)) (p := ⟨w2.heap.size, 5, none⟩) hge (.int .i64 u.st)) (p := ⟨w2.heap.size, 6, none⟩) hge (.int .i64 u.pg)) (p := ⟨w2.heap.size, 7, none⟩) hge (.int .i64 u.sl)) (p := ⟨w2.heap.size, 8, none⟩) hge (.string u.key)) (p := ⟨w2.heap.size, 9, none⟩) hge (.int .i64 u.bs)) (p := ⟨w2.heap.size, 10, none⟩) hge (.string u.bd)))
  have L8 := Lib.hid (show Bk (v7.setCells w2.heap.size 4 u.cs.toList) w2.heap.size 29 #[.int .i64 q0, .int .i64 q1, .int .i64 q2, .int .i64 q3, .int .i64 u.k, .int .i64 u.st, .int .i64 u.pg, .int .i64 u.sl, .string u.key, .int .i64 u.bs, .string u.bd, .slice none 0 0, .slice none 0 0, .int .i64 q4] from hW ▸ (Bk.set (Bk.set (Bk.set (Bk.set (Bk.set (Bk.set (Bk.set L7.out 4 (.int .i64 u.k)) 5 (.int .i64 u.st)) 6 (.int .i64 u.pg)) 7 (.int .i64 u.sl)) 8 (.string u.key)) 9 (.int .i64 u.bs)) 10 (.string u.bd)))
  clear hW hna hng hge X7 A7 L7 D7
  have h1c : u.cs.all (·.oneCell') = true := by simp [Value.oneCell', Un.cs]
  have H1C := Lib.hid h1c
  clear h1c
  go_wp2_with (refine wpList_store_mid rfl 25 _ _ rfl w2.heap.size 4 u.cs rfl rfl HTH.out (by kernel_rfl) H1C.out ?_; generalize v7.setCells w2.heap.size 4 u.cs.toList = v8 at X8 A8 D8 L8 ⊢)
  have hrr : rrec (some S) = (⟨q0, q1, q2, q3, u, 0, fun _ => Im.zero, 0, fun _ => ⟨0, 0, 0⟩, q4⟩, st6) := by
    obtain ⟨e0, e1, e2, e3, e4⟩ := HQ.out
    simp only [rrec]
    rw [HST5.out, HRU.out, e0, e1, e2, e3, e4]
  have hd6 : d6 S = st6 := by unfold d6; rw [hrr]
  have hcs : ∀ vi vl, (Rc.of S).cs vi vl = #[.int .i64 q0, .int .i64 q1, .int .i64 q2, .int .i64 q3, .int .i64 u.k, .int .i64 u.st, .int .i64 u.pg, .int .i64 u.sl, .string u.key, .int .i64 u.bs, .string u.bd, vi, vl, .int .i64 q4] := by
    intro vi vl
    unfold Rc.of Rc.cs
    dsimp only
    rw [hrr]
  have hd7 : rnx st6 1 = d7 S := by unfold d7; rw [hd6]
  have hdn : rint st6 1 = ((dn S : Nat) : Int) := by unfold dn; rw [hd6]; have := rint1_bd st6; omega
  have hn : dn S < 256 := by have := rint1_bd st6; unfold dn; rw [hd6]; omega
  have HCSS := Lib.hid hcs
  refine (next_any (w.heap.size + 1) 1 _ _ X8.out ZU.out).mono ?_
  rintro e v9 ⟨rfl, r1, g1⟩
  rw [hd7] at r1
  rw [hdn]
  have Z7 := Lib.hid (show ((d7 S).getD ⟨#[]⟩).size ≤ maxLen by rw [← hd7]; exact Nat.le_trans (rnx_size _ _) ZU.out)
  have D9 := Lib.hid (show DI w w2.heap.size ((Rc.of S).cs nil_ nil_) (d7 S) v9 from by
    rw [hcs]
    exact DI.grown ⟨X8.out, A8.out, L8.out, D8.out, HW.out⟩ r1 g1)
  clear r1 g1 X8 A8 L8 D8 hrr hcs hd7 hdn hd6 HRU HST5 HQ HNA HNG HGE ZU Z5 Z4 Z3 Z2 Z1 Z0 HW H1C HTH
  generalize hL : w2.heap.size = L at *
  clear hL
  have HN := Lib.hid hn
  clear hn
  obtain ⟨i0, hi, hz0, hz1, hz2⟩ := info_parts Try.info51
  go_wp2_with fail
  go_loopw [31] (fun i wr => ∃ (j : Nat) (vi : Value), j ≤ dn S ∧ i = .int .i64 j ∧ DI w L ((Rc.of S).cs vi nil_) (ist (d7 S) j) wr ∧ wr.ownsRow (L + 1) 51 17 vi j (imL (iim (d7 S)) j) ∧ ∀ i, i < j → Good (ibody (d7 S) i)) (fun i _ => dn S - (intOf i).toNat)
  case atStart => exact ⟨0, nil_, Nat.zero_le _, rfl, D9.out, World.ownsRow_nil _ _ _ _, fun i hi => absurd hi (Nat.not_lt_zero i)⟩
  case round =>
    clear D9
    obtain ⟨j, vi, hj, rfl, hD, hO, hG⟩ := hrel
    have D0 := Lib.hid hD; have O0 := Lib.hid hO; have G0 := Lib.hid hG
    clear hD hO hG
    by_cases hlt : j < dn S
    · have HLT := Lib.hid hlt
      have hj6 : j < 256 := by have := HN.out; omega
      go_wp2_with fail
      have Y0 := Lib.hid (Nat.le_trans (ist_size (d7 S) j) Z7.out)
      have Y1 := Lib.hid (Nat.le_trans (rnx_size (ist (d7 S) j) 4) Y0.out)
      refine (next_any (w.heap.size + 1) 4 _ _ D0.out.rd Y0.out).mono ?_
      rintro e v1 ⟨rfl, r1, g1⟩
      have D1 := Lib.hid (D0.out.grown r1 g1); have O1 := Lib.hid (owns_grown O0.out g1 (by have := D0.out.gt; omega))
      clear r1 g1 D0 O0
      go_wp2_with fail
      refine (rd_bytes (w.heap.size + 1) 224 _ _ D1.out.rd Y1.out).mono ?_
      rintro e v2 ⟨rfl, r1, g1⟩
      have D2 := Lib.hid (show DI w L ((Rc.of S).cs vi nil_) (ist (d7 S) (j + 1)) v2 from D1.out.grown r1 g1); have O2 := Lib.hid (owns_grown O1.out g1 (by have := D1.out.gt; omega))
      clear r1 g1 D1 O1
      have hib : (Oct.rbytes (rnx (ist (d7 S) j) 4) 224).1 = ibody (d7 S) j := rfl
      rw [hib]
      clear hib
      have hcd := fun w => decode_any (ibody (d7 S) j) w
      unfold Pg.v at hcd
      have hii : (iim (d7 S) j).cs = Im.cs ⟨rint (ist (d7 S) j) 4, Pg.dec (ibody (d7 S) j)⟩ := rfl
      have HII := Lib.hid hii
      have IMS := Lib.hid (show imL (iim (d7 S)) (j + 1) = imL (iim (d7 S)) j ++ (iim (d7 S) j).cs.toList from rfl)
      clear hii
      generalize rint (ist (d7 S) j) 4 = idn at *
      have CD := Lib.hid hcd
      clear hcd
      go_wp2_with fail
      refine (CD.out _).mono ?_
      rintro e v3 ⟨rfl, hb3⟩
      have D3 := Lib.hid (D2.out.kept hb3); have O3 := Lib.hid (owns_kept O2.out hb3)
      clear hb3 D2 O2 CD
      by_cases hgd : Good (ibody (d7 S) j)
      · have hde : decErr (ibody (d7 S) j) = 0 := if_pos hgd
        rw [hde]
        have GS := Lib.hid (fun (i : Nat) (hi : i < j + 1) => show Good (ibody (d7 S) i) by
          rcases Nat.lt_or_ge i j with h | h
          · exact G0.out i h
          · obtain rfl : i = j := by omega
            exact hgd)
        clear hgd hde G0
        generalize Pg.dec (ibody (d7 S) j) = pg at *
        have K4 := Lib.hid (Bk.new v3 49 pg.cs)
        have D4 := Lib.hid (D3.out.alloc (.cells pg.cs 49)); have O4 := Lib.hid (owns_kept O3.out ((Below.refl _ _).alloc (Nat.le_refl _) (.cells pg.cs 49)))
        clear D3 O3
        go_wp2_with (first
          | (refine store_page_new rfl _ _ rfl pg rfl rfl ?_; generalize (v3.alloc (.cells pg.cs 49)) = v4 at K4 D4 O4 ⊢; have x11 : v4.cell? ⟨L, 11, none⟩ = some vi := D4.out.ro.cell 11; have O4a := Lib.hid (O4.out.alloc (.cells (Im.cs ⟨idn, pg⟩) 51)); have D4a := Lib.hid (D4.out.alloc (.cells (Im.cs ⟨idn, pg⟩) 51)))
          | (refine wpList_load_part 49 _ rfl (by first | rfl | kernel_rfl) v3.heap.size 0 pg.cs rfl (page_load0 K4.out) ?_; unfold Pg.cs)
          | (at_builtin; refine wpList_append_one _ rfl _ _ 26 rfl (L + 1) 51 i0 (.agg Im.zero.cs) 17 184 Try.underlying26 hi hz0 hz1 hz2 rfl vi j (imL (iim (d7 S)) j) rfl O4a.out ⟨v4.heap.size, 0, none⟩ 1 (Im.cs ⟨idn, pg⟩).toList rfl rfl ?qc2 ?qc3 ?qc4 (by omega) ?qc5 ?qc6 ?_))
        case qc2 =>
          intro q x hx
          have hn := (Bk.new v4 51 (Im.cs ⟨idn, pg⟩)).cell q
          rw [Addr.add_lit, Nat.zero_add]
          refine Eq.trans hn ?_
          simpa using hx
        case qc3 => simp [Im.cs, Value.oneCell']
        case qc4 => have := HN.out; have := HLT.out; unfold maxLen; omega
        case qc5 => have := HN.out; have := HLT.out; omega
        case qc6 => have := D4.out.ro.lt; simp; omega
        intro v' w5 hown hgrow
        obtain ⟨ia, ic, rfl⟩ := owns_slice hown
        have D5 := Lib.hid (D4a.out.row hgrow (fun k hk => by have := (O4.out.lt k hk).1; omega))
        rw [← HII.out, ← IMS.out] at hown
        have O5 := Lib.hid hown
        have z11 : w5.cell? ⟨L, 11, none⟩ = some vi := D5.out.ro.cell 11
        have y11 := D5.out.ro.fz 11
        clear x11 hown hgrow D4 O4 D4a O4a K4
        have D6 := Lib.hid (show DI w L ((Rc.of S).cs (.slice ia (j + 1) ic) nil_) (ist (d7 S) (j + 1)) (w5.setCell ⟨L, 11, none⟩ (.slice ia (j + 1) ic)) from D5.out.set 11 _)
        have O6 := Lib.hid (owns_far O5.out (p := ⟨L, 11, none⟩) (Nat.lt_succ_self L) (.slice ia (j + 1) ic))
        go_wp2
        go_roundw
        case rel => exact ⟨j + 1, .slice ia (j + 1) ic, by have := HLT.out; omega, by go_num, D6.out, O6.out, GS.out⟩
        case measure => have := HLT.out; simp [intOf]; omega
      · have hde : decErr (ibody (d7 S) j) = 40 := if_neg hgd
        rw [hde]
        have NO := Lib.hid (show ¬ decOk S from fun h => hgd (h.1 j HLT.out))
        clear hgd hde
        generalize Pg.dec (ibody (d7 S) j) = pg at *
        have D4 := Lib.hid (D3.out.alloc (.cells pg.cs 49))
        clear D3
        go_wp2_with (first
          | (refine store_page_new rfl _ _ rfl pg rfl rfl ?_; generalize (v3.alloc (.cells pg.cs 49)) = v4 at D4 ⊢)
          | (refine wpList_store_row rfl 29 _ _ rfl w.heap.size (Rc.zero.cs nil_ nil_) rfl rfl 29 _ D4.out.res (by kernel_rfl) rfl (by simp [Value.oneCell', Rc.cs, nil_]) ?_))
        refine bodyPost_ret (rec_results _ _ w.heap.size (Rc.zero.cs nil_ nil_) (setRow_heap _ _ _ _ _ _ D4.out.res) rfl rfl) rfl ?_
        have h := D4.out.bel
        exact .inr ⟨NO.out, rfl, ⟨h.os, h.tape, h.output, by simpa [World.setRow] using h.size, fun i hi => (setRow_other _ _ _ _ (by omega)).trans (h.block i hi)⟩⟩
    · obtain rfl : j = dn S := by omega
      go_wp2_with fail
      have Y0 := Lib.hid (Nat.le_trans (ist_size (d7 S) (dn S)) Z7.out)
      refine (next_any (w.heap.size + 1) 1 _ _ D0.out.rd Y0.out).mono ?_
      rintro e v1 ⟨rfl, r1, g1⟩
      have hm8 : rint (ist (d7 S) (dn S)) 1 = ((dm S : Nat) : Int) := by unfold dm d8; have := rint1_bd (ist (d7 S) (dn S)); omega
      have hm256 : dm S < 256 := by have := rint1_bd (ist (d7 S) (dn S)); unfold dm d8; omega
      rw [hm8]
      have D1 := Lib.hid (show DI w L ((Rc.of S).cs vi nil_) (d9 S) v1 from D0.out.grown r1 g1); have O1 := Lib.hid (owns_grown O0.out g1 (by have := D0.out.gt; omega))
      have Z9 := Lib.hid (show ((d9 S).getD ⟨#[]⟩).size ≤ maxLen from Nat.le_trans (rnx_size (ist (d7 S) (dn S)) 1) Y0.out)
      have HM := Lib.hid hm256
      clear r1 g1 D0 O0 Y0 hm8 hm256 hj hlt
      obtain ⟨j0, gi, gz0, gz1, gz2⟩ := info_parts Try.info54
      go_wp2_with fail
      go_loopw [55] (fun i wr => ∃ (q : Nat) (vl : Value), q ≤ dm S ∧ i = .int .i64 q ∧ DI w L ((Rc.of S).cs vi vl) (lst (d9 S) q) wr ∧ wr.ownsRow (L + 1) 51 17 vi (dn S) (imL (iim (d7 S)) (dn S)) ∧ wr.ownsRow (L + 1) 54 3 vl q (alL (lal (d9 S)) q)) (fun i _ => dm S - (intOf i).toNat)
      case atStart => exact ⟨0, nil_, Nat.zero_le _, rfl, D1.out, O1.out, World.ownsRow_nil _ _ _ _⟩
      case round =>
        clear D1 O1
        obtain ⟨q, vl, hq, rfl, hD, hO, hP⟩ := hrel
        have D0 := Lib.hid hD; have O0 := Lib.hid hO; have P0 := Lib.hid hP
        clear hD hO hP
        by_cases hlt : q < dm S
        · have HLT := Lib.hid hlt
          have hq6 : q < 256 := by have := HM.out; omega
          have Y0 := Lib.hid (Nat.le_trans (lst_size (d9 S) q) Z9.out)
          have Y1 := Lib.hid (Nat.le_trans (rnx_size (lst (d9 S) q) 4) Y0.out)
          have Y2 := Lib.hid (Nat.le_trans (rnx_size (rnx (lst (d9 S) q) 4) 8) Y1.out)
          have ALS := Lib.hid (show alL (lal (d9 S)) (q + 1) = alL (lal (d9 S)) q ++ [.int .i64 (rint (lst (d9 S) q) 4), .int .i64 (rint (rnx (lst (d9 S) q) 4) 8), .int .i64 (rint (rnx (rnx (lst (d9 S) q) 4) 8) 8)] from rfl)
          have GT := D0.out.gt
          go_wp2_with fail
          have x12 : wr.cell? ⟨L, 12, none⟩ = some vl := D0.out.ro.cell 12
          have T1 : True := trivial
          go_region_law (first
              | (have _t := T1; go_simp; go_at_call 30; refine (next_any (w.heap.size + 1) 4 _ _ D0.out.drew.rd Y0.out).mono ?_; rintro e v1 ⟨rfl, r1, g1⟩; have m1 := Lib.hid (D0.out.drew.grown r1 g1); have o1 := Lib.hid (owns_grown (owns_kept O0.out (Below.refl _ _).drew) g1 (by omega)); have p1 := Lib.hid (owns_grown (owns_kept P0.out (Below.refl _ _).drew) g1 (by omega)); clear r1 g1; have k1 : v1.cell? ⟨L, 12, none⟩ = some vl := m1.out.ro.cell 12; clear T1 _t; have T2 : True := trivial)
              | (have _t := T2; go_simp; go_at_call 30; refine (next_any (w.heap.size + 1) 8 _ _ m1.out.rd Y1.out).mono ?_; rintro e v2 ⟨rfl, r1, g1⟩; have m2 := Lib.hid (m1.out.grown r1 g1); have o2 := Lib.hid (owns_grown o1.out g1 (by omega)); have p2 := Lib.hid (owns_grown p1.out g1 (by omega)); clear r1 g1; have k2 : v2.cell? ⟨L, 12, none⟩ = some vl := m2.out.ro.cell 12; clear T2 _t; have T3 : True := trivial)
              | (have _t := T3; go_simp; go_at_call 30; refine (next_any (w.heap.size + 1) 8 _ _ m2.out.rd Y2.out).mono ?_; rintro e v3 ⟨rfl, r1, g1⟩; have m3 := Lib.hid (show DI w L ((Rc.of S).cs vi vl) (lst (d9 S) (q + 1)) v3 from m2.out.grown r1 g1); have o3 := Lib.hid (owns_grown o2.out g1 (by omega)); have p3 := Lib.hid (owns_grown p2.out g1 (by omega)); clear r1 g1; have k3 : v3.cell? ⟨L, 12, none⟩ = some vl := m3.out.ro.cell 12; clear T3 _t; have k4 : (v3.alloc (.cells #[.int .i64 (rint (lst (d9 S) q) 4), .int .i64 (rint (rnx (lst (d9 S) q) 4) 8), .int .i64 (rint (rnx (rnx (lst (d9 S) q) 4) 8) 8)] 54)).cell? ⟨L, 12, none⟩ = some vl := (m3.out.alloc _).ro.cell 12)
              | (refine step_append_lies _ rfl _ _ 27 rfl (L + 1) 54 j0 (.agg #[.int .i64 0, .int .i64 0, .int .i64 0]) 3 24 Try.underlying27 gi gz0 gz1 gz2 rfl (by decide) vl q (alL (lal (d9 S)) q) rfl (p3.out.alloc _) ⟨v3.heap.size, 0, none⟩ 1 1 [.int .i64 (rint (lst (d9 S) q) 4), .int .i64 (rint (rnx (lst (d9 S) q) 4) 8), .int .i64 (rint (rnx (rnx (lst (d9 S) q) 4) 8) 8)] rfl rfl (by intro y x hx; rw [Addr.add_lit, Nat.zero_add]; refine Eq.trans ((Bk.new v3 54 #[.int .i64 (rint (lst (d9 S) q) 4), .int .i64 (rint (rnx (lst (d9 S) q) 4) 8), .int .i64 (rint (rnx (rnx (lst (d9 S) q) 4) 8) 8)]).cell y) ?_; simpa using hx) (by simp [Value.oneCell']) (by omega) (by unfold maxLen; omega) (by omega) (by have := m3.out.ro.lt; simp; omega) _ rfl ?_; intro gp cap v5 hown hgrow hat hlt5; have m5 := (m3.out.alloc (.cells #[.int .i64 (rint (lst (d9 S) q) 4), .int .i64 (rint (rnx (lst (d9 S) q) 4) 8), .int .i64 (rint (rnx (rnx (lst (d9 S) q) 4) 8) 8)] 54)).row hgrow (fun k hk => by have := (p3.out.lt k hk).1; omega); have k5 : v5.cell? ⟨L, 12, none⟩ = some vl := m5.ro.cell 12; have f5 := m5.ro.fz 12))
          all_goals
            have IMK := Lib.hid (owns_of_block (o3.out.alloc (.cells #[.int .i64 (rint (lst (d9 S) q) 4), .int .i64 (rint (rnx (lst (d9 S) q) 4) 8), .int .i64 (rint (rnx (rnx (lst (d9 S) q) 4) 8) 8)] 54)) (w' := v5) (fun k hk => hgrow.block k ((o3.out.alloc _).lt k hk).2 (fun e => by
              obtain ⟨_, _, c1, hc1⟩ := owns_blk o3.out hk
              obtain ⟨_, _, c2, hc2⟩ := owns_blk p3.out e.symm
              exact absurd rfl (hc1.ne_ hc2 (by decide)))))
            rw [← ALS.out] at hown
            have D6 := Lib.hid (show DI w L ((Rc.of S).cs vi (.slice (some ⟨gp, 0, none⟩) (q + 1) cap)) (lst (d9 S) (q + 1)) (v5.setCell ⟨L, 12, none⟩ (.slice (some ⟨gp, 0, none⟩) (q + 1) cap)) from m5.set 12 _)
            have O6 := Lib.hid (owns_far IMK.out (p := ⟨L, 12, none⟩) (Nat.lt_succ_self L) (.slice (some ⟨gp, 0, none⟩) (q + 1) cap))
            have P6 := Lib.hid (owns_far hown (p := ⟨L, 12, none⟩) (Nat.lt_succ_self L) (.slice (some ⟨gp, 0, none⟩) (q + 1) cap))
            clear hown hgrow hat hlt5 m5 k5 f5 k4 k3 k2 k1 x12
            go_wp2
            go_roundw
            case rel => exact ⟨q + 1, .slice (some ⟨gp, 0, none⟩) (q + 1) cap, by have := HLT.out; omega, by go_num, D6.out, O6.out, P6.out⟩
            case measure => have := HLT.out; simp [intOf]; omega
        · obtain rfl : q = dm S := by omega
          have IMA := Lib.hid (im_own O0.out (by have := HN.out; unfold maxLen; omega))
          have ALA := Lib.hid (al_own P0.out (by have := HM.out; unfold maxLen; omega))
          generalize hst : lst (d9 S) (dm S) = st at *
          have DZ := Lib.hid (show dz S = st from hst)
          clear hst
          go_wp2_with fail
          refine (rd_isbad (w.heap.size + 1) _ _ D0.out.rd).mono ?_
          rintro e v11 ⟨rfl, rfl⟩
          cases st with
          | none =>
            have NO := Lib.hid (show ¬ decOk S from fun h => by have h2 := h.2.1; rw [DZ.out] at h2; cases h2)
            go_wp2_with (refine wpList_store_row rfl 29 _ _ rfl w.heap.size (Rc.zero.cs nil_ nil_) rfl rfl 29 _ D0.out.res (by kernel_rfl) rfl (by simp [Value.oneCell', Rc.cs, nil_]) ?_)
            refine bodyPost_ret (rec_results _ _ w.heap.size (Rc.zero.cs nil_ nil_) (setRow_heap _ _ _ _ _ _ D0.out.res) rfl rfl) rfl ?_
            have h := D0.out.bel
            exact .inr ⟨NO.out, rfl, ⟨h.os, h.tape, h.output, by simpa [World.setRow] using h.size, fun i hi => (setRow_other _ _ _ _ (by omega)).trans (h.block i hi)⟩⟩
          | some R =>
            go_wp2_with fail
            refine (rd_left (w.heap.size + 1) _ _ D0.out.rd).mono ?_
            rintro e v11 ⟨rfl, rfl⟩
            by_cases hR : R = ⟨#[]⟩
            · subst hR
              have CK := Lib.hid (lcheck_any (Rc.of S) vi vl wr IMA.out ALA.out)
              have TOK : True := trivial
              go_wp2_with (have _t := TOK; refine wpList_load_part 29 _ rfl (by first | rfl | kernel_rfl) L 0 _ rfl (rec_load D0.out.ro rfl) ?_; clear TOK _t)
              refine CK.out.mono ?_
              rintro e v12 ⟨⟨rfl, hok⟩ | ⟨rfl, hno⟩, hb⟩
              · have YES := Lib.hid (show decOk S from ⟨G0.out, DZ.out, hok⟩)
                have D12 := Lib.hid (D0.out.kept hb)
                have IMB := Lib.hid ((IMA.out.below hb (Nat.le_refl _)).mono hb.size); have ALB := Lib.hid ((ALA.out.below hb (Nat.le_refl _)).mono hb.size)
                have O12 := Lib.hid (owns_kept O0.out hb); have P12 := Lib.hid (owns_kept P0.out hb)
                have GT := D12.out.gt
                clear hok hb D0 CK
                have T1 : True := trivial
                generalize hL : (Rc.of S).cs vi vl = cs at *
                have hL14 : cs.toList.length = 14 := by rw [← hL]; rfl
                have hLs : cs.size = 14 := by rw [← hL]; rfl
                have OC := Lib.hid (rec_cells14 hL IMB.out ALB.out)
                have HL := Lib.hid hL
                clear hL
                go_wp2_with (first
                  | (have _t := T1; refine wpList_load_part 29 _ rfl (by first | rfl | kernel_rfl) L 0 cs rfl (rec_load D12.out.ro hL14) ?_; clear T1 _t; have T2 : True := trivial)
                  | (have _t := T2; refine wpList_store_row rfl 29 _ _ rfl w.heap.size cs rfl rfl 29 _ D12.out.res (by rw [hLs]; kernel_rfl) (by rw [hLs]; rfl) OC.out ?_; clear T2 _t))
                refine bodyPost_ret (rec_results _ _ w.heap.size cs (setRow_heap _ _ _ _ _ _ D12.out.res) hL14 rfl) rfl ?_
                have h := D12.out.bel
                refine .inl ⟨vi, vl, YES.out, ?_, ?_, ?_, ⟨h.os, h.tape, h.output, by simpa [World.setRow] using h.size, fun i hi => (setRow_other _ _ _ _ (by omega)).trans (h.block i hi)⟩⟩
                · rw [HL.out]; rfl
                · exact im_own (owns_of_block O12.out (fun k hk => setRow_other _ _ _ _ (by have := (O12.out.lt k hk).1; omega))) (by have := HN.out; unfold maxLen; show dn S ≤ _; omega)
                · exact al_own (owns_of_block P12.out (fun k hk => setRow_other _ _ _ _ (by have := (P12.out.lt k hk).1; omega))) (by have := HM.out; unfold maxLen; show dm S ≤ _; omega)
              · have NO := Lib.hid (show ¬ decOk S from fun h => hno h.2.2)
                have D12 := Lib.hid (D0.out.kept hb)
                clear hno hb D0
                go_wp2_with (refine wpList_store_row rfl 29 _ _ rfl w.heap.size (Rc.zero.cs nil_ nil_) rfl rfl 29 _ D12.out.res (by kernel_rfl) rfl (by simp [Value.oneCell', Rc.cs, nil_]) ?_)
                refine bodyPost_ret (rec_results _ _ w.heap.size (Rc.zero.cs nil_ nil_) (setRow_heap _ _ _ _ _ _ D12.out.res) rfl rfl) rfl ?_
                have h := D12.out.bel
                exact .inr ⟨NO.out, rfl, ⟨h.os, h.tape, h.output, by simpa [World.setRow] using h.size, fun i hi => (setRow_other _ _ _ _ (by omega)).trans (h.block i hi)⟩⟩
            · have NO := Lib.hid (show ¬ decOk S from fun h => by have h2 := h.2.1; rw [DZ.out] at h2; injection h2 with h2; exact hR h2)
              have hsz : (0 : Int) < (R.size : Int) := by
                rcases Nat.eq_zero_or_pos R.size with h0 | h0
                · exact absurd (ByteArray.ext (Array.eq_empty_of_size_eq_zero h0)) hR
                · omega
              have hszn : 0 < R.size := by omega
              have hszd : decide (0 < R.size) = true := decide_eq_true hszn
              have HRN := Lib.hid hR
              clear hR
              go_wp2_with (refine wpList_store_row rfl 29 _ _ rfl w.heap.size (Rc.zero.cs nil_ nil_) rfl rfl 29 _ D0.out.res (by kernel_rfl) rfl (by simp [Value.oneCell', Rc.cs, nil_]) ?_)
              refine bodyPost_ret (rec_results _ _ w.heap.size (Rc.zero.cs nil_ nil_) (setRow_heap _ _ _ _ _ _ D0.out.res) rfl rfl) rfl ?_
              have h := D0.out.bel
              exact .inr ⟨NO.out, rfl, ⟨h.os, h.tape, h.output, by simpa [World.setRow] using h.size, fun i hi => (setRow_other _ _ _ _ (by omega)).trans (h.block i hi)⟩⟩
end Go.Proofs.Ytggabnmfjooejaa
