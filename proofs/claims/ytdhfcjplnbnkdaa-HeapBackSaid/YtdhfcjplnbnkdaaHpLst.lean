/- Pairs sorted by their numbers: the library's sort, at a row of one's own. The visitor of List. List: the records, in the order of their numbers. The law's own 'land' and 'do'. Calls that came in: six fields, among them a slice of numbers. do: a change of store 1; it lands, or is dropped. -/
import Derived.Test.YtdhfcjplnbnkdaaHpNew
import Derived.Test.YtdhfcjplnbnkdaaShelfP
import Derived.Shelf.SlSortCmp.NoneTotal
import Derived.Test.YtdhfcjplnbnkdaaOwn
import Derived.Great.BuildSlice
import Derived.Deep.AppendLies
import Derived.Test.YtdhfcjplnbnkdaaRowI
set_option linter.unusedVariables false
set_option linter.unusedSimpArgs false
namespace Go.Proofs.Ytdhfcjplnbnkdaa
open Go.RowKit Go.Maps Go.Sort

theorem holds_of_block_v {w : World} {g : Nat} {cur : Array Value} {e : TypeId} {ss : List Value} (hb : w.heap[g]? = some (.cells cur e (0, 0))) (ht : cur.toList.take ss.length = ss) : Holds id w g 0 ss.toArray := by
  intro j hj
  have hj' : j < ss.length := by simpa using hj
  refine ⟨?_, by simp [World.frozen?, hb]⟩
  have h1 : (cur.toList.take ss.length)[j]? = ss[j]? := by rw [ht]
  rw [List.getElem?_take_of_lt hj'] at h1
  simp only [World.cell?, hb, Nat.zero_add]
  simp only [Option.isSome_none, Bool.false_eq_true, if_false]
  rw [← Array.getElem?_toList, h1]
  simp [hj']
theorem heap_sorted_v {w : World} {g n : Nat} {os : Array Obj} {cur : Array Value} {e : TypeId} {fr : Nat × Nat} (d : Array Value) (hb : w.heap[g]? = some (.cells cur e fr)) :
    (grow (Go.Sort.putRow id (Sort.ahead w n) g 0 d) os).heap[g]? = some (.cells (putCells id 0 d cur) e fr) := by
  have hg : g < w.heap.size := (Array.getElem?_eq_some_iff.1 hb).1
  rw [heap_grow_old _ _ (by simpa using hg)]
  simp [Go.Sort.putRow, mapBlock, Sort.ahead, Array.getElem?_modify, hb, onCells]
theorem grownBy_sorted_v {w : World} {g n : Nat} {os : Array Obj} (d : Array Value) : w.grownBy (grow (Go.Sort.putRow id (Sort.ahead w n) g 0 d) os) (some g) := by
  refine ⟨rfl, rfl, rfl, by simp, fun k hk hne => ?_⟩
  rw [heap_grow_old _ _ (by simpa using hk)]
  have : g ≠ k := fun e => hne (by rw [e])
  simp [Go.Sort.putRow, mapBlock, Sort.ahead, Array.getElem?_modify, this]
theorem take_putCells_v (cur : Array Value) (ts : List Value) (h : ts.length ≤ cur.size) : (putCells id 0 ts.toArray cur).toList.take ts.length = ts := by
  apply List.ext_getElem?
  intro j
  by_cases hj : j < ts.length
  · rw [List.getElem?_take_of_lt hj, Array.getElem?_toList]
    simp [putCells, hj, show j < cur.size by omega]
  · rw [List.getElem?_take_eq_none (by omega), List.getElem?_eq_none (by omega)]
abbrev Pr := Int × ByteArray
def encP (x : Pr) : List Value := [.string ⟨#[]⟩, .int .i64 x.1, .string x.2]
def pairL (l : List Pr) : List Value := l.flatMap encP
theorem pairL_len : ∀ l : List Pr, (pairL l).length = l.length * 3
  | [] => rfl
  | x :: l => by
    have := pairL_len l
    unfold pairL at *
    rw [List.flatMap_cons, List.length_append, this, List.length_cons, show (encP x).length = 3 from rfl]; omega
theorem pairL_get : ∀ (l : List Pr) (t : Nat), (pairL l)[t]? = (l[t / 3]?).bind fun x => (encP x)[t % 3]?
  | [], t => rfl
  | x :: l, t => by
    show (encP x ++ pairL l)[t]? = _
    by_cases h : t < 3
    · rw [List.getElem?_append_left h, show t / 3 = 0 by omega, show t % 3 = t by omega]; rfl
    · rw [List.getElem?_append_right (by show 3 ≤ t; omega), show (encP x).length = 3 from rfl, pairL_get l (t - 3), show t / 3 = (t - 3) / 3 + 1 by omega, show t % 3 = (t - 3) % 3 by omega, List.getElem?_cons_succ]
theorem flat_pairs (l : List Pr) : flatK encP 3 l.toArray = (pairL l).toArray := by
  apply Array.ext
  · simp [pairL_len]
  · intro t h1 h2
    have ht : t < l.toArray.size * 3 := by simpa using h1
    have h3 : t / 3 < l.length := by simp at ht; omega
    have hg := get_flatK encP 3 l.toArray t ht
    rw [getElem!_pos _ t h1] at hg
    rw [hg]
    have h4 : (pairL l)[t]? = some ((pairL l).toArray[t]'h2) := by
      rw [List.getElem?_eq_getElem (by simpa using h2)]; rfl
    rw [pairL_get, List.getElem?_eq_getElem h3] at h4
    simp only [Option.bind_some] at h4
    have h5 : l.toArray[t / 3]! = l[t / 3] := by simp [h3]
    rw [h5]
    have h6 : t % 3 < (encP l[t / 3]).length := by show t % 3 < 3; omega
    rw [getElem!_pos (encP l[t / 3]) (t % 3) h6]
    rw [List.getElem?_eq_getElem h6] at h4
    exact Option.some.inj h4
theorem nan_any (x : Int) (w : World) : Calls Try.prog 55 #[.int .i64 x] w fun e w' => e = .returned (.bool false) ∧ w' = w := by
  go_enter Try.func55, Try.ntmps55
  go_wp2
  go_ret
  exact ⟨rfl, rfl⟩
def cmpI (x y : Int) : Int := if x < y then -1 else if y < x then 1 else 0
theorem compare_any (x y : Int) (w : World) : Calls Try.prog 42 #[.int .i64 x, .int .i64 y] w fun e w' => e = .returned (.int .i64 (cmpI x y)) ∧ w' = w := by
  have C1 := Lib.hid (nan_any x w); have C2 := Lib.hid (nan_any y w)
  obtain ⟨c, hc⟩ : ∃ c, c = cmpI x y := ⟨_, rfl⟩
  have HC := Lib.hid hc
  rw [← hc]
  clear hc
  go_enter Try.func42, Try.ntmps42
  go_wp2_with fail
  refine C1.out.mono ?_
  rintro e w1 ⟨rfl, rfl⟩
  go_wp2_with fail
  refine C2.out.mono ?_
  rintro e w2 ⟨rfl, rfl⟩
  by_cases h : x < y
  · obtain rfl : c = -1 := by rw [HC.out]; exact if_pos h
    clear HC C1 C2
    go_wp2
    go_ret
    exact ⟨rfl, rfl⟩
  · by_cases h2 : y < x
    · obtain rfl : c = 1 := by rw [HC.out]; unfold cmpI; rw [if_neg h, if_pos h2]
      clear HC C1 C2
      go_wp2
      go_ret
      exact ⟨rfl, rfl⟩
    · obtain rfl : c = 0 := by rw [HC.out]; unfold cmpI; rw [if_neg h, if_neg h2]
      clear HC C1 C2
      go_wp2
      go_ret
      exact ⟨rfl, rfl⟩
theorem cmp_pair (x y : Pr) (W : World) : Calls Try.prog 41 #[.agg (encP x).toArray, .agg (encP y).toArray] W fun e w' => e = .returned (.int .i64 (cmpI x.1 y.1)) ∧ ∃ q os', w' = grow (W.drewN q) os' := by
  have hcon := fun W' => compare_any x.1 y.1 W'
  unfold encP
  generalize cmpI x.1 y.1 = r at hcon ⊢
  obtain ⟨x1, x2⟩ := x; obtain ⟨y1, y2⟩ := y
  dsimp only at hcon ⊢
  have HC := Lib.hid hcon
  clear hcon
  go_enter Try.func41, Try.ntmps41
  go_wp2_with fail
  refine (HC.out _).mono ?_
  rintro e w' ⟨rfl, rfl⟩
  go_wp2
  go_ret
  exact ⟨rfl, 0, _, by rw [alloc_eq_grow, alloc_eq_grow, grow_grow]; rfl⟩
theorem lt_pair (x y : Pr) : ltOf (fun x y : Pr => cmpI x.1 y.1) x y = decide (x.1 < y.1) := by
  unfold ltOf cmpI
  by_cases h1 : x.1 < y.1
  · simp [h1]
  · by_cases h2 : y.1 < x.1 <;> simp [h1, h2]
theorem swo_pair : SWO (ltOf fun x y : Pr => cmpI x.1 y.1) where
  irrefl x := by rw [lt_pair]; simp
  trans x y z h1 h2 := by rw [lt_pair] at *; simp at *; omega
  ntrans x y z h1 h2 := by rw [lt_pair] at *; simp at *; omega
theorem sort_pairs {w : World} {base : Nat} {v : Value} {l : List Pr} (h : w.ownsRow base 57 3 v l.length (pairL l)) (hn : l.length < 4611686018427387904) :
    Calls Try.prog 40 #[v, .func (.func 41) #[] #[]] w fun e w' => e = .returned (.tuple #[]) ∧ ∃ l' : List Pr, l'.Perm l ∧ l'.Pairwise (fun x y => x.1 ≤ y.1) ∧ w'.ownsRow base 57 3 v l.length (pairL l') ∧ w.grownBy w' v.ownBlock := by
  rcases h.2 with ⟨rfl, h0⟩ | ⟨g, cap, cur, rfl, hg, hh, h1, h2, h3, h4⟩
  · have hl : l = [] := List.eq_nil_of_length_eq_zero h0
    subst hl
    refine (AnyF.slices_SortFunc_none Try.sortPair none 0 _ w).mono ?_
    rintro e w' ⟨rfl, rfl⟩
    exact ⟨rfl, [], List.Perm.refl _, List.Pairwise.nil, World.ownsRow_nil _ _ _ _, ⟨rfl, rfl, rfl, Nat.le_refl _, fun _ _ _ => rfl⟩⟩
  · have hlt : g < w.heap.size := (Array.getElem?_eq_some_iff.1 hh).1
    have hH : HoldsK encP 3 w g 0 l.toArray := by
      show Holds id w g 0 (flatK encP 3 l.toArray)
      rw [flat_pairs]
      exact holds_of_block_v hh (by rw [pairL_len]; exact h4)
    have hc := AnyQ.slices_SortFunc Try.sortPair 3 Try.isAgg57 Try.sizeOf57 encP (fun _ => rfl) (fun x v hv => by simp [encP] at hv; rcases hv with rfl | rfl | rfl <;> rfl) (fun x y => cmpI x.1 y.1) swo_pair 41 #[] g 0 cap l.toArray w
      (enters_of Try.func41 (by kernel_rfl) rfl) (fun _ _ _ _ x y => cmp_pair x y _) hH hlt (by simpa using hn)
    refine hc.mono ?_
    rintro e w' ⟨rfl, d', n, os, hp, hs, rfl⟩
    obtain ⟨hp1, hp2, hp3⟩ := hp
    have hsz : d'.size = l.length := by simpa using hp1
    have hl' : d'.toList.length = l.length := by simpa using hsz
    refine ⟨rfl, d'.toList, ?_, ?_, ?_, ?_⟩
    · have : (d'.extract 0 l.toArray.size).toList = d'.toList := by
        rw [show l.toArray.size = d'.size by rw [hsz]; simp, Array.extract_size]
      rw [this, Array.extract_size] at hp3
      exact hp3
    · rw [List.pairwise_iff_getElem]
      intro i j hi hj hij
      have := hs i j (Nat.zero_le _) hij (by rw [hl'] at hj; simpa using hj)
      rw [lt_pair] at this
      have e1 : d'[i]! = d'.toList[i] := by rw [getElem!_pos _ i (by simpa using hi)]; simp
      have e2 : d'[j]! = d'.toList[j] := by rw [getElem!_pos _ j (by simpa using hj)]; simp
      rw [e1, e2] at this
      have h8 : ¬ d'.toList[j].1 < d'.toList[i].1 := of_decide_eq_false this
      omega
    · have hfl : flatK encP 3 d' = (pairL d'.toList).toArray := by have := flat_pairs d'.toList; simpa using this
      show (grow (Go.Sort.putRow id (Sort.ahead w n) g 0 (flatK encP 3 d')) os).ownsRow _ _ _ _ _ _
      rw [hfl]
      refine ⟨by rw [pairL_len, hl'], .inr ⟨g, cap, _, rfl, hg, heap_sorted_v _ hh, h1, h2, by simp [putCells, h3], ?_⟩⟩
      have hle : (pairL d'.toList).length ≤ cur.size := by rw [pairL_len, hl', h3]; exact Nat.mul_le_mul_right 3 h1
      have := take_putCells_v cur (pairL d'.toList) hle
      rwa [pairL_len, hl'] at this
    · exact grownBy_sorted_v _
end Go.Proofs.Ytdhfcjplnbnkdaa
namespace Go.Proofs.Ytdhfcjplnbnkdaa
open Go.RowKit Go.Maps

theorem Try.info57 : (Try.prog.info? 57).map (fun i => (i.zero, i.size, i.bytes)) = some (some (.agg #[.string ⟨#[]⟩, .int .i64 0, .string ⟨#[]⟩]), 3, 40) := by kernel_rfl
/-- The records of a page, up to a cell. -/
def liveU (p : Pg) (id : Nat) : Nat → List Pr
  | 0 => []
  | j + 1 => liveU p id j ++ (if (p.c j).st = 1 then [(((id : Int) * 8 + (j : Int)), (p.c j).d)] else [])
theorem liveU_len (p : Pg) (id : Nat) : ∀ j, (liveU p id j).length ≤ j
  | 0 => Nat.le_refl _
  | j + 1 => by
    have := liveU_len p id j
    unfold liveU
    rw [List.length_append]
    split
    · simp; omega
    · simp; omega
def Fm (w w' : World) (AB : Nat) : Prop := ∀ q t cs, Bk w q t cs → q ≠ AB → t ≠ 57 → Bk w' q t cs
theorem pairL_app (l m : List Pr) : pairL (l ++ m) = pairL l ++ pairL m := by unfold pairL; rw [List.flatMap_append]
theorem ow_far {w : World} {base : Nat} {e : TypeId} {size : Nat} {v : Value} {n : Nat} {xs : List Value} (h : w.ownsRow base e size v n xs) {p : Addr} (hp : p.block < base) (u : Value) : (w.setCell p u).ownsRow base e size v n xs :=
  ow_same h fun k hk => Below.heap_setCell w p u k (by have := (ow_blk h hk).1; omega)
set_option maxRecDepth 100000 in
set_option maxHeartbeats 6000000 in
theorem visit_list (id : Nat) (hid : id < 1024) (p : Pg) (l : List Pr) (hl : l.length ≤ 100000) (base AB : Nat) (x : Value) (w : World) (hB : Bk w AB 53 #[x]) (hO : w.ownsRow (AB + 1) 57 3 x l.length (pairL l)) (hba : base ≤ AB) :
    Calls Try.prog 39 #[.int .i64 id, .agg p.cs, .pointer (some ⟨AB, 0, none⟩)] w fun e w' => e = .returned (.bool false) ∧ ∃ x', Bk w' AB 53 #[x'] ∧ w'.ownsRow (AB + 1) 57 3 x' (l ++ liveU p id 6).length (pairL (l ++ liveU p id 6)) ∧ Fm w w' AB ∧ Below base w w' := by
  have K := Lib.hid (Bk.new w 40 p.cs)
  have AB0 := Lib.hid (hB.alloc (.cells p.cs 40))
  have O0 := Lib.hid (hO.alloc (.cells p.cs 40))
  have F0 := Lib.hid (show Fm w (w.alloc (.cells p.cs 40)) AB from fun q t cs hk _ _ => hk.alloc _)
  have LB := Lib.hid (show base ≤ w.heap.size by have := hB.lt; omega)
  have B0 := Lib.hid ((Below.refl base w).alloc LB.out (.cells p.cs 40))
  have HL := Lib.hid hl; have HA := Lib.hid hba; have HI := Lib.hid hid
  have CI := Lib.hid (fun (i : Nat) (hi : i < 6) (w' : World) => id_any id i (by omega) (by omega) w')
  clear hB hO hba hl hid
  go_enter Try.func39, Try.ntmps39
  go_upto_region 1 with fail
  generalize w.alloc (.cells p.cs 40) = w0 at *
  obtain ⟨G, hG⟩ : ∃ G, G = w.heap.size := ⟨_, rfl⟩
  rw [← hG] at K ⊢
  clear hG
  go_wp2_with (refine load_cells rfl _ rfl G p rfl K.out ?_)
  go_loopw [10] (fun i wr => ∃ (j : Nat) (x : Value), j ≤ 6 ∧ i = .int .i64 j ∧ Bk wr AB 53 #[x] ∧ wr.ownsRow (AB + 1) 57 3 x (l ++ liveU p id j).length (pairL (l ++ liveU p id j)) ∧ Fm w wr AB ∧ Below base w wr) (fun i _ => 6 - (intOf i).toNat)
  case atStart => exact ⟨0, x, Nat.zero_le _, rfl, AB0.out, by rw [show l ++ liveU p id 0 = l from List.append_nil l]; exact O0.out, F0.out, B0.out⟩
  case round =>
    obtain ⟨j, x1, hj, rfl, h1, h2, h3, h4⟩ := hrel
    obtain ⟨xa, xc, rfl⟩ := ow_slice h2
    have AB1 := Lib.hid h1; have O1 := Lib.hid h2; have F1 := Lib.hid h3; have B1 := Lib.hid h4
    clear h1 h2 h3 h4 AB0 O0 F0 B0 K
    by_cases hlt : j < 6
    · have HLT := Lib.hid hlt
      obtain ⟨cj, hcj⟩ : ∃ cj, cj = p.c j := ⟨_, rfl⟩
      have HC := Lib.hid hcj
      clear hcj
      have AB2 := Lib.hid (AB1.out.alloc (.cells #[.int .i64 cj.st, .string cj.d] 37))
      have O2 := Lib.hid (O1.out.alloc (.cells #[.int .i64 cj.st, .string cj.d] 37))
      have F2 := Lib.hid (show Fm w (wr.alloc (.cells #[.int .i64 cj.st, .string cj.d] 37)) AB from fun q t cs hk h1 h2 => (F1.out q t cs hk h1 h2).alloc _)
      have B2 := Lib.hid (B1.out.alloc (Nat.le_trans LB.out B1.out.size) (.cells #[.int .i64 cj.st, .string cj.d] 37))
      have KC := Lib.hid (Bk.new wr 37 #[.int .i64 cj.st, .string cj.d])
      by_cases hs : cj.st = 1
      · have hsb : (cj.st == 1) = true := by simp [hs]
        have SU := Lib.hid (show liveU p id (j + 1) = liveU p id j ++ [(((id : Int) * 8 + (j : Int)), cj.d)] from by
          show liveU p id j ++ (if (p.c j).st = 1 then _ else _) = _
          rw [if_pos (by rw [← HC.out]; exact hs), ← HC.out])
        clear AB1 O1 F1 B1
        obtain ⟨C, hC⟩ : ∃ C, C = wr.heap.size := ⟨_, rfl⟩
        rw [← hC] at KC
        rw [hs] at AB2 O2 F2 B2 KC
        as_aux_lemma =>
          go_upto_region 5 with (refine index_cells rfl _ _ rfl p.c j HLT.out rfl rfl ?_; rw [← HC.out])
          rw [← hC]
          generalize wr.alloc (.cells #[.int .i64 1, .string cj.d] 37) = w2 at *
          clear hC hs hsb
          obtain ⟨n, hn⟩ : ∃ n, n = (l ++ liveU p id j).length := ⟨_, rfl⟩
          rw [← hn] at O2 AB2
          have NL := Lib.hid (show n ≤ 100006 by rw [hn, List.length_append]; have := HL.out; have := liveU_len p id j; have := HLT.out; omega)
          have HN := Lib.hid hn
          clear hn
          obtain ⟨i0, hi0, hz0, hz1, hz2⟩ := info_parts Try.info57
          obtain ⟨pr, hpr⟩ : ∃ pr : List Value, pr = [.string ⟨#[]⟩, .int .i64 ((id : Int) * 8 + (j : Int)), .string cj.d] := ⟨_, rfl⟩
          have PR := Lib.hid hpr
          clear hpr
          have AB3 := Lib.hid (AB2.out.drew.alloc (.cells #[.string ⟨#[]⟩, .int .i64 ((id : Int) * 8 + (j : Int)), .string cj.d] 57))
          have O3 := Lib.hid (World.ownsRow.alloc (show w2.drew.ownsRow (AB + 1) 57 3 (.slice xa n xc) n (pairL (l ++ liveU p id j)) from O2.out) (.cells #[.string ⟨#[]⟩, .int .i64 ((id : Int) * 8 + (j : Int)), .string cj.d] 57))
          have F3 := Lib.hid (show Fm w (w2.drew.alloc (.cells #[.string ⟨#[]⟩, .int .i64 ((id : Int) * 8 + (j : Int)), .string cj.d] 57)) AB from fun q t cs hk h1 h2 => ((F2.out q t cs hk h1 h2).drew).alloc _)
          have B3 := Lib.hid (B2.out.drew.alloc (show base ≤ w2.drew.heap.size from Nat.le_trans LB.out B2.out.size) (.cells #[.string ⟨#[]⟩, .int .i64 ((id : Int) * 8 + (j : Int)), .string cj.d] 57))
          have NL1 : n + 1 ≤ maxLen := by have := NL.out; unfold maxLen; omega
          have NL2 : n < 2 ^ 63 := by have := NL.out; omega
          have BS := B3.out.size
          have LB2 := LB.out
          have c0 : w2.cell? ⟨AB, 0, none⟩ = some (.slice xa n xc) := AB2.out.cell 0
          have c1 : w2.cell? ⟨C, 1, none⟩ = some (.string cj.d) := KC.out.cell 1
          have c2 : w2.drew.cell? ⟨AB, 0, none⟩ = some (.slice xa n xc) := c0
          have c3 : (w2.alloc (.cells #[.string ⟨#[]⟩, .int .i64 ((id : Int) * 8 + (j : Int)), .string cj.d] 57)).cell? ⟨AB, 0, none⟩ = some (.slice xa n xc) := AB3.out.cell 0
          have c4 : (w2.drew.alloc (.cells #[.string ⟨#[]⟩, .int .i64 ((id : Int) * 8 + (j : Int)), .string cj.d] 57)).cell? ⟨AB, 0, none⟩ = some (.slice xa n xc) := AB3.out.cell 0
          have A1 : AB + 1 ≤ (w2.drew.alloc (.cells #[.string ⟨#[]⟩, .int .i64 ((id : Int) * 8 + (j : Int)), .string cj.d] 57)).heap.size := AB3.out.lt
          have T1 : True := trivial
          go_region_law (first
              | (have _t := T1; go_simp; go_at_call 23; refine (CI.out j HLT.out _).mono ?_; rintro e v1 ⟨rfl, rfl⟩; clear T1 _t; have k1 : w2.drew.cell? ⟨AB, 0, none⟩ = some (.slice xa n xc) := c0; have k2 : w2.drew.cell? ⟨C, 1, none⟩ = some (.string cj.d) := c1; have T2 : True := trivial)
              | (refine step_append_lies _ rfl _ _ 53 rfl (AB + 1) 57 i0 (.agg #[.string ⟨#[]⟩, .int .i64 0, .string ⟨#[]⟩]) 3 40 Try.underlying53 hi0 hz0 hz1 hz2 rfl (by decide) (.slice xa n xc) n (pairL (l ++ liveU p id j)) rfl O3.out ⟨w2.drew.heap.size, 0, none⟩ 1 1 [.string ⟨#[]⟩, .int .i64 ((id : Int) * 8 + (j : Int)), .string cj.d] rfl rfl (by intro y x hx; rw [Addr.add_lit, Nat.zero_add]; refine Eq.trans ((Bk.new w2.drew 57 #[.string ⟨#[]⟩, .int .i64 ((id : Int) * 8 + (j : Int)), .string cj.d]).cell y) ?_; simpa using hx) (by simp [Value.oneCell']) (by decide) (by have := NL.out; simp only [maxLen]; omega) (by have := NL.out; omega) A1 _ rfl ?_; intro g cap w4 h2 h3 h4 h5; have AB4 := AB3.out.grown h3 (fun e => by obtain ⟨-, -, cur, hc⟩ := ow_blk O3.out e.symm; exact Bk.ne_ AB3.out hc (by decide) rfl); have k5 : w4.cell? ⟨AB, 0, none⟩ = some (.slice xa n xc) := AB4.cell 0; have f5 := AB4.fz 0))
          all_goals
            have hob : ∀ k, (Value.slice xa n xc).ownBlock = some k → AB + 1 ≤ k ∧ ∃ cur, Bk (w2.drew.alloc (.cells #[.string ⟨#[]⟩, .int .i64 ((id : Int) * 8 + (j : Int)), .string cj.d] 57)) k 57 cur := fun k hk => ⟨(ow_blk O3.out hk).1, (ow_blk O3.out hk).2.2⟩
            have F4 := Lib.hid (show Fm w (w4.setCell ⟨AB, 0, none⟩ (.slice (some ⟨g, 0, none⟩) (n + 1) cap)) AB from fun q t cs hk h1 h2 => ((F3.out q t cs hk h1 h2).grown h3 (fun e => by obtain ⟨-, cur, hc⟩ := hob _ e.symm; exact Bk.ne_ (F3.out q t cs hk h1 h2) hc h2 rfl)).far h1 _)
            have B4 := Lib.hid ((bl_grow B3.out h3 (fun k hk => by have := (hob k hk).1; have := HA.out; omega) (Nat.le_trans LB.out B3.out.size)).setCell (p := ⟨AB, 0, none⟩) HA.out (.slice (some ⟨g, 0, none⟩) (n + 1) cap))
            have A4 := Lib.hid (AB4.set 0 (.slice (some ⟨g, 0, none⟩) (n + 1) cap))
            have O4 := Lib.hid (ow_far h2 (p := ⟨AB, 0, none⟩) (Nat.lt_succ_self AB) (.slice (some ⟨g, 0, none⟩) (n + 1) cap))
            clear h2 h3 h4 h5 k5 f5 AB4 hob c0 c1 c2 c3 c4 k1 k2 T2 A1 hi0 hz0 hz1 hz2
            have EL : n + 1 = (l ++ liveU p id (j + 1)).length := by rw [SU.out, HN.out]; simp [Nat.add_assoc]
            have EP : pairL (l ++ liveU p id j) ++ [.string ⟨#[]⟩, .int .i64 ((id : Int) * 8 + (j : Int)), .string cj.d] = pairL (l ++ liveU p id (j + 1)) := by rw [SU.out, ← List.append_assoc, pairL_app (l ++ liveU p id j)]; rfl
            rw [EP] at O4
            have ELH := Lib.hid EL
            clear EL EP
            go_wp2
            go_roundw
            case rel => exact ⟨j + 1, _, by have := HLT.out; omega, by go_num, A4.out, by rw [← ELH.out]; exact O4.out, F4.out, B4.out⟩
            case measure => have := HLT.out; simp [intOf]; omega
      · have hsb : (cj.st == 1) = false := by simp [hs]
        have SU := Lib.hid (show liveU p id (j + 1) = liveU p id j from by
          show liveU p id j ++ (if (p.c j).st = 1 then _ else _) = _
          rw [if_neg (by rw [← HC.out]; exact hs), List.append_nil])
        clear AB1 O1 F1 B1
        as_aux_lemma =>
          go_wp2_with (refine index_cells rfl _ _ rfl p.c j HLT.out rfl rfl ?_; rw [← HC.out])
          go_roundw
          case rel => exact ⟨j + 1, _, by have := HLT.out; omega, by go_num, AB2.out, by rw [SU.out]; exact O2.out, F2.out, B2.out⟩
          case measure => have := HLT.out; simp [intOf]; omega
    · have h6 : ¬ (j : Int) < 6 := by omega
      have e6 : j = 6 := by omega
      rw [e6] at O1 AB1
      clear hlt hj e6
      go_wp2
      go_ret
      exact ⟨rfl, _, AB1.out, (by have h := O1.out; simp only [List.length_append] at h ⊢; exact h), F1.out, B1.out⟩
end Go.Proofs.Ytdhfcjplnbnkdaa
namespace Go.Proofs.Ytdhfcjplnbnkdaa
open Go.RowKit Go.Maps

def liveAll (pg : Nat → Pg) (ch : List Nat) : Nat → List Pr
  | 0 => []
  | i + 1 => liveAll pg ch i ++ liveU (pg (ch.getD i 0)) (ch.getD i 0) 6
theorem liveAll_len (pg : Nat → Pg) (ch : List Nat) : ∀ i, (liveAll pg ch i).length ≤ 6 * i
  | 0 => Nat.le_refl _
  | i + 1 => by
    have := liveAll_len pg ch i
    have := liveU_len (pg (ch.getD i 0)) (ch.getD i 0) 6
    unfold liveAll
    rw [List.length_append]
    omega
theorem liveU_mem (p : Pg) (id : Nat) (x : Pr) : ∀ j, x ∈ liveU p id j ↔ ∃ s, s < j ∧ (p.c s).st = 1 ∧ x = ((id : Int) * 8 + (s : Int), (p.c s).d)
  | 0 => by simp [liveU]
  | j + 1 => by
    unfold liveU
    rw [List.mem_append, liveU_mem p id x j]
    constructor
    · rintro (⟨s, h1, h2, h3⟩ | h)
      · exact ⟨s, by omega, h2, h3⟩
      · by_cases hs : (p.c j).st = 1
        · rw [if_pos hs, List.mem_singleton] at h
          exact ⟨j, by omega, hs, h⟩
        · rw [if_neg hs] at h; exact absurd h List.not_mem_nil
    · rintro ⟨s, h1, h2, h3⟩
      by_cases e : s = j
      · subst e; right; rw [if_pos h2, List.mem_singleton]; exact h3
      · left; exact ⟨s, by omega, h2, h3⟩
theorem liveAll_mem (pg : Nat → Pg) (ch : List Nat) (x : Pr) : ∀ i, x ∈ liveAll pg ch i ↔ ∃ q, q < i ∧ x ∈ liveU (pg (ch.getD q 0)) (ch.getD q 0) 6
  | 0 => by simp [liveAll]
  | i + 1 => by
    unfold liveAll
    rw [List.mem_append, liveAll_mem pg ch x i]
    constructor
    · rintro (⟨s, h1, h2⟩ | h)
      · exact ⟨s, by omega, h2⟩
      · exact ⟨i, by omega, h⟩
    · rintro ⟨s, h1, h2⟩
      by_cases e : s = i
      · subst e; exact .inr h2
      · exact .inl ⟨s, by omega, h2⟩
theorem liveU_ne (p : Pg) (id : Nat) : ∀ j, (liveU p id j).Pairwise (fun x y => x.1 ≠ y.1)
  | 0 => List.Pairwise.nil
  | j + 1 => by
    have ih := liveU_ne p id j
    unfold liveU
    rw [List.pairwise_append]
    refine ⟨ih, by split <;> simp, ?_⟩
    intro x hx y hy
    obtain ⟨s, h1, -, rfl⟩ := (liveU_mem p id x j).1 hx
    split at hy
    · rw [List.mem_singleton] at hy; subst hy; show (id : Int) * 8 + (s : Int) ≠ (id : Int) * 8 + (j : Int); omega
    · exact absurd hy List.not_mem_nil
theorem liveAll_ne {pg : Nat → Pg} {n : Nat} {ch : List Nat} {L : Nat → Nat → Ce} (h : Hc pg n ch L) : ∀ i, i ≤ ch.length → (liveAll pg ch i).Pairwise (fun x y => x.1 ≠ y.1)
  | 0, _ => List.Pairwise.nil
  | i + 1, hi => by
    have ih := liveAll_ne h i (by omega)
    unfold liveAll
    rw [List.pairwise_append]
    refine ⟨ih, liveU_ne _ _ _, ?_⟩
    intro x hx y hy
    obtain ⟨q, hq, hx⟩ := (liveAll_mem pg ch x i).1 hx
    obtain ⟨s, h1, -, rfl⟩ := (liveU_mem _ _ x 6).1 hx
    obtain ⟨t, h2, -, rfl⟩ := (liveU_mem _ _ y 6).1 hy
    have hne : ch.getD q 0 ≠ ch.getD i 0 := fun e => by have := h.inj (by omega) (by omega) e; omega
    show (ch.getD q 0 : Int) * 8 + (s : Int) ≠ (ch.getD i 0 : Int) * 8 + (t : Int)
    omega
/-- The records of a heap, as a list tells them. -/
structure LsP (L : Nat → Nat → Ce) (l : List Pr) : Prop where
  sort : l.Pairwise (fun x y => x.1 < y.1)
  mem : ∀ x : Pr, x ∈ l ↔ rcP L x.1 ∧ x.2 = (L (x.1.toNat / 8) (x.1.toNat % 8)).d
theorem lsP_of {pg : Nat → Pg} {n : Nat} {ch : List Nat} {L : Nat → Nat → Ce} (h : Hc pg n ch L) {l : List Pr} (hp : l.Perm (liveAll pg ch ch.length)) (hs : l.Pairwise (fun x y => x.1 ≤ y.1)) : LsP L l where
  sort := by
    have h1 : l.Pairwise (fun x y => x.1 ≠ y.1) := (hp.pairwise_iff (fun {x y} (e : x.1 ≠ y.1) => Ne.symm e)).2 (liveAll_ne h _ (Nat.le_refl _))
    exact (hs.and h1).imp (fun {a b} h2 => by have := h2.1; have := h2.2; omega)
  mem := fun x => by
    rw [hp.mem_iff, liveAll_mem]
    constructor
    · rintro ⟨q, hq, hx⟩
      obtain ⟨s, h1, h2, rfl⟩ := (liveU_mem _ _ x 6).1 hx
      rw [h.cell (getD_mem hq) h1] at h2
      refine ⟨(rcP_nat L _ s h1).2 h2, ?_⟩
      show ((pg (ch.getD q 0)).c s).d = (L (((ch.getD q 0 : Int) * 8 + (s : Int)).toNat / 8) (((ch.getD q 0 : Int) * 8 + (s : Int)).toNat % 8)).d
      rw [h.cell (getD_mem hq) h1, show ((ch.getD q 0 : Int) * 8 + (s : Int)).toNat = ch.getD q 0 * 8 + s by omega, show (ch.getD q 0 * 8 + s) / 8 = ch.getD q 0 by omega, show (ch.getD q 0 * 8 + s) % 8 = s by omega]
    · rintro ⟨⟨h0, h6, h1⟩, h2⟩
      have hm := h.rc_mem h1
      obtain ⟨q, hq, e⟩ := mem_getD hm
      refine ⟨q, hq, (liveU_mem _ _ x 6).2 ⟨x.1.toNat % 8, h6, ?_, ?_⟩⟩
      · rw [e, h.cell hm h6]; exact h1
      · rw [e, h.cell hm h6, ← h2]
        refine Prod.ext ?_ rfl
        show x.1 = _
        have := h0
        simp only []
        omega
def ListPost (w : World) (L : Nat → Nat → Ce) (e : Ending) (w' : World) : Prop :=
  ∃ (x : Value) (l : List Pr), e = .returned (.tuple #[x, .int .i64 0]) ∧ LsP L l ∧ l.length ≤ 6144 ∧ w'.ownsRow w.heap.size 57 3 x l.length (pairL l) ∧ Below w.heap.size w w'
set_option maxRecDepth 100000 in
set_option maxHeartbeats 6000000 in
theorem list_any {w : World} {B g b gs r N M n : Nat} {und pg : Nat → Pg} {ch : List Nat} {L : Nat → Nat → Ce} (h : SV w B g b gs r N M und pg) (hn : n ≤ N) (hc : Hc pg n ch L) :
    Calls Try.prog 18 #[.pointer (some ⟨g, 0, none⟩), .int .i64 1] w (ListPost w L) := by
  have HV := Lib.hid h; have HC := Lib.hid hc; have HN := Lib.hid hn
  have LN := Lib.hid hc.len
  clear h hc hn
  go_enter Try.func18, Try.ntmps18
  go_upto_region 2 with fail
  obtain ⟨AB, hA⟩ : ∃ AB, AB = w.heap.size := ⟨_, rfl⟩
  have K0 := Lib.hid (Bk.new w 53 #[.slice none 0 0])
  have B0 := Lib.hid ((Below.refl w.heap.size w).alloc (Nat.le_refl _) (.cells #[.slice none 0 0] 53))
  rw [← hA] at K0 ⊢
  generalize w.alloc (.cells #[.slice none 0 0] 53) = w1 at *
  have HA := Lib.hid hA
  clear hA
  have CW := Lib.hid (walk_any HC.out 39 #[.pointer (some ⟨AB, 0, none⟩)]
    (enters_of Try.func39 (by kernel_rfl) rfl) (w := w1) (B := B) (g := g) (b := b) (gs := gs) (r := r) (N := N) (M := M) (und := und)
    (fun i w' => i ≤ ch.length ∧ Below w.heap.size w w' ∧ w1.heap.size ≤ w'.heap.size ∧ ∃ x, Bk w' AB 53 #[x] ∧ w'.ownsRow (AB + 1) 57 3 x (liveAll pg ch i).length (pairL (liveAll pg ch i)))
    (fun i w' => False)
    HN.out (fun i w' h => HV.out.kept h.2.1)
    (fun i w' w'' h hb => ⟨h.1, below_then h.2.1 hb h.2.1.size, Nat.le_trans h.2.2.1 hb.size, h.2.2.2.elim fun x hx => ⟨x, hx.1.kept hb, ow_kept hx.2 hb⟩⟩)
    (fun i w' hi h => by
      obtain ⟨h0, h1, h2, x, h3, h4⟩ := h
      have hpm := HC.out.mem (getD_mem hi)
      refine (visit_list (ch.getD i 0) (by have := LN.out; omega) (pg (ch.getD i 0)) (liveAll pg ch i) (by have := liveAll_len pg ch i; have := LN.out; omega) w.heap.size AB x w' h3 h4 (by have := HA.out; omega)).mono ?_
      rintro e w'' ⟨rfl, x', k1, k2, k3, k4⟩
      exact ⟨.inl ⟨rfl, hi, h1.trans k4, Nat.le_trans h2 k4.size, x', k1, k2⟩, fun q cs hq hk => k3 q _ cs hk (Bk.ne_ hk h3 (by decide)) (by decide)⟩)
    (fun i w' h => h.2.2.1)
    ⟨Nat.zero_le _, B0.out, Nat.le_refl _, _, K0.out, World.ownsRow_nil _ _ _ _⟩)
  as_aux_lemma =>
    go_wp2_with fail
    refine CW.out.mono ?_
    rintro e w6 ⟨rfl, ⟨-, h1, h2, x, h3, h4⟩ | ⟨i, hi, h⟩⟩
    · obtain ⟨xa, xc, rfl⟩ := ow_slice h4
      have x0 := h3.cell 0
      have K6 := Lib.hid h3; have B6 := Lib.hid h1; have O6 := Lib.hid h4
      have CS := Lib.hid (sort_pairs h4 (by have := liveAll_len pg ch ch.length; have := LN.out; omega))
      have LL := Lib.hid (show (liveAll pg ch ch.length).length ≤ 6144 by have := liveAll_len pg ch ch.length; have := LN.out; omega)
      have LP := Lib.hid (fun (l : List Pr) (h1 : l.Perm (liveAll pg ch ch.length)) (h2 : l.Pairwise (fun x y => x.1 ≤ y.1)) => lsP_of HC.out h1 h2)
      clear h1 h2 h3 h4 CW HC HV
      generalize liveAll pg ch ch.length = la at *
      as_aux_lemma =>
        go_wp2_with fail
        refine CS.out.mono ?_
        rintro e w7 ⟨rfl, l', h1, h2, h3, h4⟩
        have x1 : w7.cell? ⟨AB, 0, none⟩ = some (.slice xa la.length xc) := (K6.out.grown h4 (fun e => by have := (ow_blk O6.out e.symm).1; omega)).cell 0
        have FIN := Lib.hid (show ListPost w L (.returned (.tuple #[.slice xa la.length xc, .int .i64 0])) w7 from
          ⟨_, l', rfl, LP.out l' h1 h2, by rw [h1.length_eq]; exact LL.out, by rw [h1.length_eq]; exact ow_mono h3 (by have := HA.out; omega), bl_grow B6.out h4 (fun k hk => by have := (ow_blk O6.out hk).1; have := HA.out; omega) B6.out.size⟩)
        clear h1 h2 h3 h4 CS K6 B6 O6 LP x0
        go_wp2
        go_ret2
        exact FIN.out
    · exact h.elim
end Go.Proofs.Ytdhfcjplnbnkdaa
namespace Go.Proofs.Ytdhfcjplnbnkdaa
open Go.RowKit Go.Maps Go.ChangeShapes Go.WideShapes Go.ChangeAt Go.Deep

theorem SV.r_ge {w : World} {B g b gs r N M : Nat} {und pg : Nat → Pg} (h : SV w B g b gs r N M und pg) : B ≤ r := by
  obtain ⟨m, ps, l, h0, _⟩ := h.ex
  exact h0.sh.br
def landed (er : Int) (und pg : Nat → Pg) : Nat → Pg := if er = 0 then pg else und
/-- All blocks that stood stand, but for two. -/
def Oth (w w' : World) (b r : Nat) : Prop := w.heap.size ≤ w'.heap.size ∧ ∀ q, q < w.heap.size → q ≠ b → q ≠ r → w'.heap[q]? = w.heap[q]?
theorem Oth.below {w w1 : World} {b r : Nat} (hb : Below w.heap.size w w1) : Oth w w1 b r := ⟨hb.size, fun q hq _ _ => hb.block q hq⟩
theorem Oth.grown {w w1 w2 : World} {b r k : Nat} (h : Oth w w1 b r) (hg : w1.grownBy w2 (some k)) (hk : k = b ∨ k = r) : Oth w w2 b r :=
  ⟨Nat.le_trans h.1 hg.size, fun q hq h1 h2 => (hg.block q (Nat.lt_of_lt_of_le hq h.1) (fun e => by injection e with e; rcases hk with hk | hk <;> omega)).trans (h.2 q hq h1 h2)⟩
set_option maxRecDepth 100000 in
set_option maxHeartbeats 4000000 in
theorem land_full {w w0 : World} {g b gs r N M : Nat} {und pg : Nat → Pg} (h : SV w w0.heap.size g b gs r N M und pg) (hb : Below w0.heap.size w0 w) (er : Int) :
    Calls Try.prog 13 #[.pointer (some ⟨gs, 0, none⟩), .pointer (some ⟨g, 0, none⟩), .int .i64 er] w fun e w' => e = .returned (.bool true) ∧ SV w' w0.heap.size g b gs r N 0 (landed er und pg) (landed er und pg) ∧ Below w0.heap.size w0 w' ∧ Oth w w' b r := by
  have CI := Lib.hid (sv_images h)
  have B0 := Lib.hid hb
  have BB := Lib.hid (show w0.heap.size ≤ b ∧ w0.heap.size ≤ r from ⟨h.b_ge, h.r_ge⟩)
  have SZ := Lib.hid hb.size
  clear h hb
  go_enter Try.func13, Try.ntmps13
  go_wp2_with fail
  refine CI.out.mono ?_
  rintro e w1 ⟨v, rfl, hl⟩
  have L1 := Lib.hid hl
  obtain ⟨m, ps, l, s1, s2, s3, s4, s5, s6, s7, hbb⟩ := hl
  have V1 := Lib.hid (show SV w1 w0.heap.size g b gs r N M und pg from ⟨m, ps, l, s1, s2, s3, s4, s5, s6⟩)
  have B1 := Lib.hid (below_then B0.out hbb B0.out.size)
  have T1 := Lib.hid (Oth.below (b := b) (r := r) hbb)
  clear s1 s2 s3 s4 s5 s6 s7 hbb CI B0 m ps l
  by_cases he : er = 0
  · subst he
    have CA := Lib.hid (sv_apply L1.out)
    go_wp2_with fail
    refine CA.out.mono ?_
    rintro e w2 ⟨rfl, hs, hg⟩
    have B2 := Lib.hid (bl_grow B1.out hg (fun k hk => by cases hk; exact BB.out.2) B1.out.size)
    have T2 := Lib.hid (T1.out.grown hg (.inr rfl))
    have CD := Lib.hid (sv_drop hs)
    clear hs hg CA V1 B1 L1
    go_wp2_with fail
    refine CD.out.mono ?_
    rintro e w3 ⟨rfl, hs, hg⟩
    have B3 := Lib.hid (bl_grow B2.out hg (fun k hk => by cases hk; exact BB.out.1) B2.out.size)
    have T3 := Lib.hid (T2.out.grown hg (.inl rfl))
    have V3 := Lib.hid hs
    clear hs hg CD B2
    go_wp2
    go_ret
    exact ⟨rfl, V3.out, B3.out, T3.out⟩
  · have heb : (er == 0) = false := by simp [he]
    have hen : (er != 0) = true := by simp [he]
    have CD := Lib.hid (sv_drop V1.out)
    have LE := Lib.hid (show landed er und pg = und from if_neg he)
    clear V1 L1 he
    go_wp2_with fail
    refine CD.out.mono ?_
    rintro e w3 ⟨rfl, hs, hg⟩
    have B3 := Lib.hid (bl_grow B1.out hg (fun k hk => by cases hk; exact BB.out.1) B1.out.size)
    have T3 := Lib.hid (T1.out.grown hg (.inl rfl))
    have V3 := Lib.hid hs
    clear hs hg CD B1
    go_wp2
    go_ret
    exact ⟨rfl, by rw [LE.out]; exact V3.out, B3.out, T3.out⟩
end Go.Proofs.Ytdhfcjplnbnkdaa
set_option maxRecDepth 100000
namespace Go.Proofs.Ytdhfcjplnbnkdaa
open Go.RowKit Go.ChangeShapes Go.WideShapes Go.ChangeAt Go.Deep

structure IsPage (v : Value) (p : Pg) : Prop where
  val : v = p.v
  bd : (-9223372036854775808 ≤ p.k ∧ p.k ≤ 9223372036854775807) ∧ (-9223372036854775808 ≤ p.l ∧ p.l ≤ 9223372036854775807) ∧ (-9223372036854775808 ≤ p.s ∧ p.s ≤ 9223372036854775807) ∧ (-9223372036854775808 ≤ p.n ∧ p.n ≤ 9223372036854775807)
  cells : ∀ i, i < 6 → (-9223372036854775808 ≤ (p.c i).st ∧ (p.c i).st ≤ 9223372036854775807) ∧ (p.c i).d.size ≤ maxLen
def in64 (x : Int) : Prop := -9223372036854775808 ≤ x ∧ x ≤ 9223372036854775807
structure Cl where
  k : Int
  st : Int
  id : Int
  v : ByteArray
  kv : Value
  m : Nat
  f : Nat → Int
  p : Pg
def Cl.cs (c : Cl) : Array Value := (.int .i64 c.k :: .int .i64 c.st :: .int .i64 c.id :: .string c.v :: c.kv :: c.p.cs.toList).toArray
def Cl.zero : Cl := ⟨0, 0, 0, ⟨#[]⟩, .slice none 0 0, 0, fun _ => 0, Pg.zero⟩
theorem cl_len (c : Cl) : c.cs.toList.length = 21 := rfl
/-- What is known of a call that came in, its row below B. -/
structure ClOk (w : World) (B : Nat) (c : Cl) : Prop where
  id : in64 c.id
  k : in64 c.k
  len : c.m ≤ maxLen
  row : Row w B .i64 c.kv c.m c.f
theorem ClOk.below {w w' : World} {B B' : Nat} {c : Cl} (h : ClOk w B c) (hb : Below B' w w') (hB : B ≤ B') : ClOk w' B c := ⟨h.id, h.k, h.len, h.row.below hb hB⟩
theorem ClOk.sl {w : World} {B : Nat} {c : Cl} (h : ClOk w B c) : ∃ a cap, c.kv = .slice a c.m cap := by
  obtain ⟨a, cap, e, -⟩ := h.row
  exact ⟨a, cap, e⟩
section
variable {ops : Array Oper} {rest : List Oper} {o : Oper} {a : Act} {w : World} {Q : Exit → Act → World → Prop}
theorem load_cl_off (hgd : o.guard = none) (x : Operand) (ho : o.op = .load 42 x) (g off : Nat) (i : Nat) (p : Cl) (hx : a.eval x = .pointer (some ⟨g, off + i * 21, none⟩)) (hr : w.rangeAt g (off + i * 21) p.cs.toList)
    (h : wpList Try.prog ops Q rest (a.put o.dst (.agg p.cs)) w) : wpList Try.prog ops Q (o :: rest) a w :=
  wpList_load_mid hgd 42 x ho g (off + i * 21) hx p.cs.toList _ hr Try.underlying42 rfl (by rw [cl_len]; kernel_rfl) (by simpa using h)
theorem load_cl (hgd : o.guard = none) (x : Operand) (ho : o.op = .load 42 x) (g : Nat) (p : Cl) (hx : a.eval x = .pointer (some ⟨g, 0, none⟩)) (hb : Bk w g 42 p.cs)
    (h : wpList Try.prog ops Q rest (a.put o.dst (.agg p.cs)) w) : wpList Try.prog ops Q (o :: rest) a w :=
  wpList_load_mid hgd 42 x ho g 0 hx p.cs.toList _ (fun j v hv => by rw [Nat.zero_add, hb.cell]; simpa using hv) Try.underlying42 rfl (by rw [cl_len]; kernel_rfl) (by simpa using h)
theorem store_cl_new (hgd : o.guard = none) (x y : Operand) (ho : o.op = .store 42 x y) (i : Cl) (hi : ∃ a cap, i.kv = .slice a i.m cap)
    (hx : a.eval x = .pointer (some ⟨w.heap.size, 0, none⟩)) (hy : a.eval y = .agg i.cs) (h : wpList Try.prog ops Q rest (a.put o.dst undef) (w.alloc (.cells i.cs 42))) : wpList Try.prog ops Q (o :: rest) a (w.alloc (.cells Cl.zero.cs 42)) := by
  obtain ⟨ka, kc, hk⟩ := hi
  refine wpList_store_row hgd 42 x y ho w.heap.size i.cs hx hy 42 Cl.zero.cs (Bk.new _ _ _) (by rw [show i.cs.size = 21 from rfl]; kernel_rfl) rfl (by simp [Cl.cs, Pg.cs, Value.oneCell', hk]) ?_
  rw [World.setRow_alloc_new]
  exact h
end
/-- A slice of calls that lie below B. -/
def ClsAt (w : World) (B : Nat) (v : Value) (l : List Cl) : Prop :=
  ∃ a c, v = .slice a l.length c ∧ (0 < l.length → ∃ b off, a = some (⟨b, off, none⟩ : Addr) ∧ b < B ∧ ∀ i p, l[i]? = some p → w.rangeAt b (off + i * 21) p.cs.toList)
structure IsCls (w : World) (v : Value) (l : List Cl) : Prop where
  at_ : ClsAt w w.heap.size v l
  len : l.length ≤ maxLen
  bd : ∀ i ∈ l, ClOk w w.heap.size i
theorem ClsAt.below {w w' : World} {B : Nat} {v : Value} {l : List Cl} (h : ClsAt w B v l) (hb : Below B w w') : ClsAt w' B v l := by
  obtain ⟨a, c, e, h⟩ := h
  refine ⟨a, c, e, fun hm => ?_⟩
  obtain ⟨b, off, e1, hlt, hc⟩ := h hm
  exact ⟨b, off, e1, hlt, fun i p hi j u hu => (hb.cell (p := ⟨b, off + i * 21 + j, none⟩) hlt).trans (hc i p hi j u hu)⟩
section
variable {H : Type} {enc : TypeId × Value → H} {w : World} {base : Nat} {held : Bool}
theorem cell_trod {n : Nat} {a b : Value} {x : DataW H × List MemPlace} (h : DataW.trod enc Try.prog w base (fun _ => true) held n 37 [a, b] = some x) :
    ∃ c : Ce, a = .int .i64 c.st ∧ b = .string c.d ∧ (-9223372036854775808 ≤ c.st ∧ c.st ≤ 9223372036854775807) ∧ c.d.size ≤ maxLen := by
  obtain ⟨xs, m, _, _, _, hlen, hg⟩ := DataW.trod_struct Try.underlying37 h
  have cI : Try.prog.cellsOf 3 = 1 := by kernel_rfl
  have cS : Try.prog.cellsOf 9 = 1 := by kernel_rfl
  have hl2 : xs.length = 2 := hlen
  have hx : ∀ i, i < xs.length → ∃ y, xs[i]? = some y := fun i hi => ⟨_, List.getElem?_eq_getElem hi⟩
  have g0 : DataW.trod enc Try.prog w base (fun _ => true) held m 3 ([a, b].drop 0 |>.take (Try.prog.cellsOf 3)) = xs[0]? := hg 0 _ rfl
  have g1 : DataW.trod enc Try.prog w base (fun _ => true) held m 9 ([a, b].drop 1 |>.take (Try.prog.cellsOf 9)) = xs[1]? := hg 1 _ rfl
  rw [cI] at g0
  rw [cS] at g1
  obtain ⟨y0, e0⟩ := hx 0 (by omega)
  obtain ⟨y1, e1⟩ := hx 1 (by omega)
  obtain ⟨n1, hn1, _, z1⟩ := DataW.trod_int Try.underlying3 (g0.trans e0)
  obtain ⟨s2, hs2, _, z2⟩ := DataW.trod_string Try.underlying9 (g1.trans e1)
  have b1 : -9223372036854775808 ≤ n1 ∧ n1 ≤ 9223372036854775807 := by simpa [Lit.wf, IntKind.min, IntKind.max, IntKind.signed, IntKind.bits] using z1
  exact ⟨⟨n1, s2⟩, by simpa using hn1, by simpa using hs2, b1, z2⟩
theorem page_trod {fuel : Nat} {c0 c1 c2 c3 c4 c5 c6 c7 c8 c9 c10 c11 c12 c13 c14 c15 : Value} {x : DataW H × List MemPlace} (hf : DataW.trod enc Try.prog w base (fun _ => true) held fuel 40 [c0, c1, c2, c3, c4, c5, c6, c7, c8, c9, c10, c11, c12, c13, c14, c15] = some x) : ∃ q : Pg, IsPage (.agg #[c0, c1, c2, c3, c4, c5, c6, c7, c8, c9, c10, c11, c12, c13, c14, c15]) q := by
  have cI : Try.prog.cellsOf 3 = 1 := by kernel_rfl
  have cC : Try.prog.cellsOf 37 = 2 := by kernel_rfl
  have cA : Try.prog.cellsOf 38 = 12 := by kernel_rfl
  obtain ⟨xs, n, _, hxd, hpl, hlen, hg⟩ := DataW.trod_struct Try.underlying40 hf
  have hx : ∀ i, i < xs.length → ∃ y, xs[i]? = some y := fun i hi => ⟨_, List.getElem?_eq_getElem hi⟩
  have hl5 : xs.length = 5 := hlen
  generalize hL : [c0, c1, c2, c3, c4, c5, c6, c7, c8, c9, c10, c11, c12, c13, c14, c15] = L at hg
  have g0 : DataW.trod enc Try.prog w base (fun _ => true) held n 3 (L.drop 0 |>.take (Try.prog.cellsOf 3)) = xs[0]? := hg 0 _ rfl
  have g1 : DataW.trod enc Try.prog w base (fun _ => true) held n 3 (L.drop 1 |>.take (Try.prog.cellsOf 3)) = xs[1]? := hg 1 _ rfl
  have g2 : DataW.trod enc Try.prog w base (fun _ => true) held n 3 (L.drop 2 |>.take (Try.prog.cellsOf 3)) = xs[2]? := hg 2 _ rfl
  have g3 : DataW.trod enc Try.prog w base (fun _ => true) held n 3 (L.drop 3 |>.take (Try.prog.cellsOf 3)) = xs[3]? := hg 3 _ rfl
  have g4 : DataW.trod enc Try.prog w base (fun _ => true) held n 38 (L.drop 4 |>.take (Try.prog.cellsOf 38)) = xs[4]? := hg 4 _ rfl
  subst hL
  rw [cI] at g0 g1 g2 g3
  rw [cA] at g4
  obtain ⟨y0, e0⟩ := hx 0 (by omega)
  obtain ⟨y1, e1⟩ := hx 1 (by omega)
  obtain ⟨y2, e2⟩ := hx 2 (by omega)
  obtain ⟨y3, e3⟩ := hx 3 (by omega)
  obtain ⟨y4, e4⟩ := hx 4 (by omega)
  obtain ⟨n0, hn0, _, z0⟩ := DataW.trod_int Try.underlying3 (g0.trans e0)
  obtain ⟨n1, hn1, _, z1⟩ := DataW.trod_int Try.underlying3 (g1.trans e1)
  obtain ⟨n2, hn2, _, z2⟩ := DataW.trod_int Try.underlying3 (g2.trans e2)
  obtain ⟨n3, hn3, _, z3⟩ := DataW.trod_int Try.underlying3 (g3.trans e3)
  obtain ⟨ys, m, _, _, _, hyl, hy⟩ := DataW.trod_array Try.underlying38 (g4.trans e4)
  rw [cC] at hy
  have hyx : ∀ i, i < 6 → ∃ y, ys[i]? = some y := fun i hi => ⟨_, List.getElem?_eq_getElem (by omega)⟩
  obtain ⟨u0, f0⟩ := hyx 0 (by omega)
  obtain ⟨u1, f1⟩ := hyx 1 (by omega)
  obtain ⟨u2, f2⟩ := hyx 2 (by omega)
  obtain ⟨u3, f3⟩ := hyx 3 (by omega)
  obtain ⟨u4, f4⟩ := hyx 4 (by omega)
  obtain ⟨u5, f5⟩ := hyx 5 (by omega)
  obtain ⟨k0, a0, b0, m0, s0⟩ := cell_trod (a := c4) (b := c5) ((hy 0 (by omega)).trans f0)
  obtain ⟨k1, a1, b1, m1, s1⟩ := cell_trod (a := c6) (b := c7) ((hy 1 (by omega)).trans f1)
  obtain ⟨k2, a2, b2, m2, s2⟩ := cell_trod (a := c8) (b := c9) ((hy 2 (by omega)).trans f2)
  obtain ⟨k3, a3, b3, m3, s3⟩ := cell_trod (a := c10) (b := c11) ((hy 3 (by omega)).trans f3)
  obtain ⟨k4, a4, b4, m4, s4⟩ := cell_trod (a := c12) (b := c13) ((hy 4 (by omega)).trans f4)
  obtain ⟨k5, a5, b5, m5, s5⟩ := cell_trod (a := c14) (b := c15) ((hy 5 (by omega)).trans f5)
  have hi : ∀ {x : Int}, (Lit.int .i64 x).wf = true → -9223372036854775808 ≤ x ∧ x ≤ 9223372036854775807 := fun h => by simpa [Lit.wf, IntKind.min, IntKind.max, IntKind.signed, IntKind.bits] using h
  simp at hn0 hn1 hn2 hn3
  subst hn0 hn1 hn2 hn3 a0 b0 a1 b1 a2 b2 a3 b3 a4 b4 a5 b5
  refine ⟨⟨n0, n1, n2, n3, fun i => if i = 0 then k0 else if i = 1 then k1 else if i = 2 then k2 else if i = 3 then k3 else if i = 4 then k4 else k5⟩, rfl, ⟨hi z0, hi z1, hi z2, hi z3⟩, fun i hi6 => ?_⟩
  rcases six hi6 with rfl | rfl | rfl | rfl | rfl | rfl
  · exact ⟨m0, s0⟩
  · exact ⟨m1, s1⟩
  · exact ⟨m2, s2⟩
  · exact ⟨m3, s3⟩
  · exact ⟨m4, s4⟩
  · exact ⟨m5, s5⟩

/-- A slice whose elements have C cells each. -/
theorem rows_trod {P : Program} {t e : TypeId} {C : Nat} {fuel : Nat} {v : Value} {x : DataW H × List MemPlace} (ht : P.underlying t = some (.slice e)) (hC : P.cellsOf e = C) (h0 : 0 < C)
    (h : DataW.trod enc P w base (fun _ => true) held fuel t [v] = some x) :
    ∃ a len cap, v = .slice a len cap ∧ len ≤ cap ∧ cap ≤ maxLen ∧ SzOf x.1 cap ∧ (a = none → len = 0 ∧ cap = 0) ∧ ∃ L : Nat → List Value, (∀ i, i < len → (L i).length = C ∧ ∃ n y, DataW.trod enc P w base (fun _ => true) held n e (L i) = some y) ∧
      (0 < len → ∃ b off, a = some (⟨b, off, none⟩ : Addr) ∧ b < w.heap.size ∧ ∀ i j u, i < len → (L i)[j]? = some u → w.cell? ⟨b, off + i * C + j, none⟩ = some u) := by
  rcases open_slice ht h with ⟨hcs, rfl⟩ | ⟨y, len, cap, m, n, D, Pl, hcs, hb, hl, hm, hmm, hx, hi⟩
  · simp at hcs
    exact ⟨none, 0, 0, hcs, Nat.le_refl _, Nat.zero_le _, .inl rfl, (fun _ => ⟨rfl, rfl⟩), fun _ => [], fun i hi => absurd hi (Nat.not_lt_zero i), fun h => absurd h (Nat.lt_irrefl 0)⟩
  · simp at hcs
    simp only [if_true] at hmm
    obtain rfl : cap = m := by omega
    have hall : ∀ i, ∃ l : List Value, i < len → l.length = C ∧ (∃ n y, DataW.trod enc P w base (fun _ => true) held n e l = some y) ∧ ∀ j, j < C → w.cell? (y.add (i * C + j)) = l[j]? := by
      intro i
      by_cases hil : i < len
      · have hh := hi i (by omega)
        rw [hC] at hh
        obtain ⟨cs', hc, ht'⟩ := hh
        obtain ⟨_, hcl, hat⟩ := World.cells?_some hc
        exact ⟨cs', fun _ => ⟨hcl, ⟨_, _, ht'⟩, fun j hj => by rw [← add_add]; exact hat j hj⟩⟩
      · exact ⟨[], fun h => absurd h hil⟩
    refine ⟨some y, len, cap, hcs, hl, hm, (.inr ⟨_, _, by rw [hx], by simp; omega⟩), (fun h => by cases h), fun i => (hall i).choose, fun i hil => ⟨((hall i).choose_spec hil).1, ((hall i).choose_spec hil).2.1⟩, fun hlen => ?_⟩
    obtain ⟨b, off, e1, hlt, hc⟩ := mk_at (size := C) (len := len) (f := fun i j => ((hall i).choose)[j]?.getD .nilIface) hlen h0 (fun i j hi' hj => by
      obtain ⟨g1, _, g3⟩ := (hall i).choose_spec hi'
      rw [g3 j hj]
      have : j < (hall i).choose.length := by omega
      rw [List.getElem?_eq_getElem this]
      rfl)
    refine ⟨b, off, e1, hlt, fun i j u hi' hu => ?_⟩
    have hjl := (List.getElem?_eq_some_iff.1 hu).1
    have := hc i j hi' (by rw [((hall i).choose_spec hi').1] at hjl; exact hjl)
    rw [Nat.add_assoc, this, hu]
    rfl
theorem int_in {x : Int} (h : (Lit.int .i64 x).wf = true) : in64 x := by
  have : -9223372036854775808 ≤ x ∧ x ≤ 9223372036854775807 := by simpa [Lit.wf, IntKind.min, IntKind.max, IntKind.signed, IntKind.bits] using h
  exact this
theorem len_ex {α : Type} {l : List α} {n : Nat} (h : l.length = n) : ∀ i, i < n → ∃ y, l[i]? = some y := fun i hi => ⟨_, List.getElem?_eq_getElem (by omega)⟩
/-- Numbers in a cell that holds a slice. -/
theorem ints_trod {fuel : Nat} {v : Value} {x : DataW H × List MemPlace} (h : DataW.trod enc Try.prog w base (fun _ => true) held fuel 35 [v] = some x) :
    ∃ (m : Nat) (f : Nat → Int), m ≤ maxLen ∧ Row w w.heap.size .i64 v m f := by
  obtain ⟨a, len, cap, hve, h1, h2, _, hnil, L, hL, hat⟩ := rows_trod (C := 1) Try.underlying35 (by kernel_rfl) (by omega) h
  have hk : ∀ i, ∃ s : Int, i < len → L i = [.int .i64 s] := by
    intro i
    by_cases hi : i < len
    · obtain ⟨hlen, n, y, ht⟩ := hL i hi
      obtain ⟨s, hs, _, _⟩ := DataW.trod_int Try.underlying3 ht
      exact ⟨s, fun _ => hs⟩
    · exact ⟨0, fun h => absurd h hi⟩
  refine ⟨len, fun i => (hk i).choose, by omega, a, cap, hve, hnil, fun hm => ?_⟩
  obtain ⟨b, off, e, hlt, hc⟩ := hat hm
  refine ⟨b, off, e, hlt, fun i hi => ?_⟩
  have := hc i 0 (.int .i64 (hk i).choose) hi (congrArg (fun l : List Value => l[0]?) ((hk i).choose_spec hi))
  rw [Nat.mul_one, Nat.add_zero] at this
  exact this
set_option maxRecDepth 100000 in
theorem call_trod {n : Nat} {l : List Value} {x : DataW H × List MemPlace} (hlen : l.length = 21) (h : DataW.trod enc Try.prog w base (fun _ => true) held n 42 l = some x) :
    ∃ m : Cl, l = m.cs.toList ∧ ClOk w w.heap.size m := by
  have cI : Try.prog.cellsOf 3 = 1 := by kernel_rfl
  have cS : Try.prog.cellsOf 9 = 1 := by kernel_rfl
  have cK : Try.prog.cellsOf 35 = 1 := by kernel_rfl
  have cP : Try.prog.cellsOf 40 = 16 := by kernel_rfl
  obtain ⟨xs, m, _, _, _, hl, hg⟩ := DataW.trod_struct Try.underlying42 h
  match l, hlen with
  | [d0, d1, d2, d3, d4, c0, c1, c2, c3, c4, c5, c6, c7, c8, c9, c10, c11, c12, c13, c14, c15], _ =>
    have hl2 : xs.length = 6 := hl
    generalize hL : [d0, d1, d2, d3, d4, c0, c1, c2, c3, c4, c5, c6, c7, c8, c9, c10, c11, c12, c13, c14, c15] = L at hg
    have g0 : DataW.trod enc Try.prog w base (fun _ => true) held m 3 (L.drop 0 |>.take (Try.prog.cellsOf 3)) = xs[0]? := hg 0 _ rfl
    have g1 : DataW.trod enc Try.prog w base (fun _ => true) held m 3 (L.drop 1 |>.take (Try.prog.cellsOf 3)) = xs[1]? := hg 1 _ rfl
    have g2 : DataW.trod enc Try.prog w base (fun _ => true) held m 3 (L.drop 2 |>.take (Try.prog.cellsOf 3)) = xs[2]? := hg 2 _ rfl
    have g3 : DataW.trod enc Try.prog w base (fun _ => true) held m 9 (L.drop 3 |>.take (Try.prog.cellsOf 9)) = xs[3]? := hg 3 _ rfl
    have g4 : DataW.trod enc Try.prog w base (fun _ => true) held m 35 (L.drop 4 |>.take (Try.prog.cellsOf 35)) = xs[4]? := hg 4 _ rfl
    have g5 : DataW.trod enc Try.prog w base (fun _ => true) held m 40 (L.drop 5 |>.take (Try.prog.cellsOf 40)) = xs[5]? := hg 5 _ rfl
    subst hL
    rw [cI] at g0 g1 g2
    rw [cS] at g3
    rw [cK] at g4
    rw [cP] at g5
    obtain ⟨y0, e0⟩ := len_ex hl2 0 (by omega)
    obtain ⟨y1, e1⟩ := len_ex hl2 1 (by omega)
    obtain ⟨y2, e2⟩ := len_ex hl2 2 (by omega)
    obtain ⟨y3, e3⟩ := len_ex hl2 3 (by omega)
    obtain ⟨y4, e4⟩ := len_ex hl2 4 (by omega)
    obtain ⟨y5, e5⟩ := len_ex hl2 5 (by omega)
    obtain ⟨n0, hn0, _, z0⟩ := DataW.trod_int Try.underlying3 (g0.trans e0)
    obtain ⟨n1, hn1, _, z1⟩ := DataW.trod_int Try.underlying3 (g1.trans e1)
    obtain ⟨n2, hn2, _, z2⟩ := DataW.trod_int Try.underlying3 (g2.trans e2)
    obtain ⟨s3, hs3, _, z3⟩ := DataW.trod_string Try.underlying9 (g3.trans e3)
    obtain ⟨mk, fk, hmk, hrow⟩ := ints_trod (v := d4) (g4.trans e4)
    obtain ⟨q, hq⟩ := page_trod (g5.trans e5)
    have hval := hq.val
    unfold Pg.v Pg.cs at hval
    simp only [Value.agg.injEq, Array.mk.injEq, List.cons.injEq] at hval
    obtain ⟨r0, r1, r2, r3, r4, r5, r6, r7, r8, r9, r10, r11, r12, r13, r14, r15, _⟩ := hval
    simp at hn0 hn1 hn2 hs3
    subst hn0 hn1 hn2 hs3 r0 r1 r2 r3 r4 r5 r6 r7 r8 r9 r10 r11 r12 r13 r14 r15
    exact ⟨⟨n0, n1, n2, s3, d4, mk, fk, q⟩, rfl, int_in z2, int_in z0, hmk, hrow⟩
theorem read_calls {r : Reach} {b0 : Nat} {d : DataW H} {p : List MemPlace} {v : Value}
    (hv : Value.okWide Try.prog w r b0 22 v) (h : DataW.Trod enc Try.prog w base (fun _ => true) held 22 v d p) : ∃ l : List Cl, IsCls w v l := by
  obtain ⟨fuel, hf⟩ := h
  obtain ⟨a0, len0, cap0, rfl⟩ := okWide_slice Try.underlying22 hv
  have hf' : DataW.trod enc Try.prog w base (fun _ => true) held fuel 22 [.slice a0 len0 cap0] = some (d, p) := hf
  obtain ⟨a, len, cap, hve, h1, h2, _, _, L, hL, hat⟩ := rows_trod (C := 21) Try.underlying22 (by kernel_rfl) (by omega) hf'
  rw [hve]
  have him : ∀ i, ∃ mm : Cl, i < len → L i = mm.cs.toList ∧ ClOk w w.heap.size mm := by
    intro i
    by_cases hi : i < len
    · obtain ⟨hlen, n, y, ht⟩ := hL i hi
      obtain ⟨mm, h1⟩ := call_trod hlen ht
      exact ⟨mm, fun _ => h1⟩
    · exact ⟨Cl.zero, fun h => absurd h hi⟩
  have hll : ((List.range len).map fun i => (him i).choose).length = len := by simp
  refine ⟨(List.range len).map fun i => (him i).choose, ⟨a, cap, by rw [hll], fun h0 => ?_⟩, by rw [hll]; omega, fun i hi => ?_⟩
  · rw [hll] at h0
    obtain ⟨b, off, e1, hlt, hc⟩ := hat h0
    refine ⟨b, off, e1, hlt, fun i p hi j u hu => ?_⟩
    have hil : i < len := by have := (List.getElem?_eq_some_iff.1 hi).1; rwa [hll] at this
    rw [List.getElem?_map, List.getElem?_range hil] at hi
    simp at hi
    subst hi
    exact hc i j u hil (by rw [((him i).choose_spec hil).1]; exact hu)
  · obtain ⟨k, hk, rfl⟩ := List.mem_map.1 hi
    exact ((him k).choose_spec (List.mem_range.1 hk)).2
end
end Go.Proofs.Ytdhfcjplnbnkdaa
namespace Go.Proofs.Ytdhfcjplnbnkdaa
open Go.RowKit Go.Maps

theorem SV.row {w : World} {B g b gs r N M : Nat} {und pg : Nat → Pg} (h : SV w B g b gs r N M und pg) {k : Nat} (hk : k ≠ g ∧ k ≠ b ∧ k ≠ gs ∧ k ≠ r) (cs : Array Value) : SV (w.setRow k cs) B g b gs r N M und pg :=
  h.grown (only_row w k cs) (fun j hj => by cases hj; exact hk)
theorem Oth.trans {w w1 w2 : World} {b r : Nat} (h : Oth w w1 b r) (k : Oth w1 w2 b r) : Oth w w2 b r :=
  ⟨Nat.le_trans h.1 k.1, fun q hq h1 h2 => (k.2 q (Nat.lt_of_lt_of_le hq h.1) h1 h2).trans (h.2 q hq h1 h2)⟩
theorem Oth.row {w w1 : World} {b r k : Nat} (h : Oth w w1 b r) (hk : w.heap.size ≤ k) (cs : Array Value) : Oth w (w1.setRow k cs) b r :=
  ⟨by have := h.1; simpa [World.setRow] using this, fun q hq h1 h2 => (setRow_other _ _ _ _ (by omega)).trans (h.2 q hq h1 h2)⟩
theorem Oth.bk {w w1 : World} {b r : Nat} (h : Oth w w1 b r) {k : Nat} {t : TypeId} {cs : Array Value} (hk : Bk w k t cs) (h1 : k ≠ b) (h2 : k ≠ r) : Bk w1 k t cs := (h.2 k hk.lt h1 h2).trans hk
/-- What a call of 'do' does to the records. -/
def DoStep (n : Nat) (L : Nat → Nat → Ce) (u : Ud) (er : Int) (L' : Nat → Nat → Ce) : Prop :=
  (L' = L ∧ u = ud0) ∨ (er = 0 ∧ ∃ (p s : Nat) (c : Ce), s < 6 ∧ p < n ∧ u = udC p s (L p s) ∧ L' = putL L p s c ∧ c.st ≠ 0)
def DoPost (w0 w : World) (g b gs r N n : Nat) (L : Nat → Nat → Ce) (e : Ending) (w' : World) : Prop :=
  ∃ (u : Ud) (er : Int) (pg' : Nat → Pg) (ch' : List Nat) (L' : Nat → Nat → Ce), e = .returned (.tuple #[.agg u.cs, .int .i64 er]) ∧ SV w' w0.heap.size g b gs r N 0 pg' pg' ∧ Hc pg' n ch' L' ∧ DoStep n L u er L' ∧ Below w0.heap.size w0 w' ∧ Oth w w' b r
theorem landed_zero (und pg : Nat → Pg) : landed 0 und pg = pg := if_pos rfl
theorem landed_ne {er : Int} (h : er ≠ 0) (und pg : Nat → Pg) : landed er und pg = und := if_neg h
def Mid (w3 : World) (B g b gs r N n : Nat) (pg : Nat → Pg) (L : Nat → Nat → Ce) (u : Ud) (er : Int) (w4 : World) : Prop :=
  ∃ (pg' : Nat → Pg) (M' : Nat), SV w4 B g b gs r N M' pg pg' ∧ w3.grownBy w4 (some b) ∧ ∃ ch' L', Hc (landed er pg pg') n ch' L' ∧ DoStep n L u er L'
section
variable {w3 w4 : World} {B g b gs r N n : Nat} {pg : Nat → Pg} {ch : List Nat} {L : Nat → Nat → Ce}
theorem mid_same (h : SV w3 B g b gs r N 0 pg pg) (hc : Hc pg n ch L) (er : Int) (hb : Below w3.heap.size w3 w4) : Mid w3 B g b gs r N n pg L ud0 er w4 :=
  ⟨pg, 0, h.kept hb, only_below hb _, ch, L, by unfold landed; split <;> exact hc, .inl ⟨rfl, rfl⟩⟩
theorem mid_ins (h : SV w3 B g b gs r N 0 pg pg) (hc : Hc pg n ch L) {X : Prop} {val : ByteArray} {m : Nat} {f : Nat → Int} {e : Ending} (hp : InsPost X w3 B g b gs r N 0 n pg ch L val m f e w4) :
    ∃ (x : Int) (u : Ud) (er : Int), e = .returned (.tuple #[.int .i64 x, .agg u.cs, .int .i64 er]) ∧ Mid w3 B g b gs r N n pg L u er w4 := by
  rcases hp with ⟨-, rfl, hb⟩ | ⟨-, rfl, -, -, M', pg', ch', -, hs, -, hg⟩ | ⟨p, s, -, hs6, hpn, -, -, rfl, -, M', pg', ch', -, -, hs, hc', hg⟩
  · exact ⟨0, ud0, 2, rfl, mid_same h hc 2 hb⟩
  · exact ⟨0, ud0, 140, rfl, pg', M', hs, hg, ch, L, by rw [landed_ne (by decide)]; exact hc, .inl ⟨rfl, rfl⟩⟩
  · exact ⟨_, udC p s (L p s), 0, rfl, pg', M', hs, hg, ch', _, by rw [landed_zero]; exact hc', .inr ⟨rfl, p, s, _, hs6, hpn, rfl, rfl, show (1 : Int) ≠ 0 by decide⟩⟩
theorem mid_ch (h : SV w3 B g b gs r N 0 pg pg) (hc : Hc pg n ch L) {id : Int} {new : Ce → Ce} (hnew : ∀ c, (new c).st ≠ 0) {e : Ending} (hp : ChPost w3 B g b gs r N 0 n pg ch L id new e w4) :
    ∃ (u : Ud) (er : Int), e = .returned (.tuple #[.agg u.cs, .int .i64 er]) ∧ Mid w3 B g b gs r N n pg L u er w4 := by
  rcases hp with ⟨-, rfl, hb⟩ | ⟨p, s, hs6, -, hm, -, rfl, pg', hs, hc', hg⟩
  · exact ⟨ud0, 150, rfl, mid_same h hc 150 hb⟩
  · exact ⟨udC p s (L p s), 0, rfl, pg', _, hs, hg, ch, _, by rw [landed_zero]; exact hc', .inr ⟨rfl, p, s, _, hs6, (hc.mem hm).2, rfl, rfl, hnew _⟩⟩
theorem mid_upd (h : SV w3 B g b gs r N 0 pg pg) (hc : Hc pg n ch L) {id : Int} {val : ByteArray} {e : Ending} (hp : (32 < val.size ∧ e = .returned (.tuple #[.agg ud0.cs, .int .i64 2]) ∧ Below w3.heap.size w3 w4) ∨ (val.size ≤ 32 ∧ ChPost w3 B g b gs r N 0 n pg ch L id (fun _ => ⟨1, val⟩) e w4)) :
    ∃ (u : Ud) (er : Int), e = .returned (.tuple #[.agg u.cs, .int .i64 er]) ∧ Mid w3 B g b gs r N n pg L u er w4 := by
  rcases hp with ⟨-, rfl, hb⟩ | ⟨-, hp⟩
  · exact ⟨ud0, 2, rfl, mid_same h hc 2 hb⟩
  · exact mid_ch h hc (fun c => show (1 : Int) ≠ 0 by decide) hp
end
set_option maxRecDepth 100000 in
set_option maxHeartbeats 8000000 in
theorem do_any {w w0 : World} {g b gs r N n : Nat} {pg : Nat → Pg} {ch : List Nat} {L : Nat → Nat → Ce} (h : SV w w0.heap.size g b gs r N 0 pg pg) (hn : n ≤ N) (hc : Hc pg n ch L) (hb : Below w0.heap.size w0 w) (c : Cl) (hk : ClOk w w0.heap.size c) :
    Calls Try.prog 19 #[.pointer (some ⟨gs, 0, none⟩), .pointer (some ⟨g, 0, none⟩), .agg c.cs] w (DoPost w0 w g b gs r N n L) := by
  have HV := Lib.hid h; have HC := Lib.hid hc; have HN := Lib.hid hn; have HK := Lib.hid hk
  have NEG := Lib.hid h.gs_ne
  have W0 := Lib.hid hb.size
  have BB := Lib.hid (show w0.heap.size ≤ b ∧ w0.heap.size ≤ r from ⟨h.b_ge, h.r_ge⟩)
  have HB := Lib.hid hb
  clear h hc hn hb hk
  go_enter Try.func19, Try.ntmps19
  go_upto_region 3 with fail
  change Code.wp _ _ _ _ (((w.alloc (.cells c.cs 42)).alloc (.cells ud0.cs 45)).alloc (.cells ud0.cs 45))
  have KC := Lib.hid (((Bk.new w 42 c.cs).alloc (.cells ud0.cs 45)).alloc (.cells ud0.cs 45))
  have KR := Lib.hid ((Bk.new2 w (.cells c.cs 42) 45 ud0.cs).alloc (.cells ud0.cs 45))
  have KU := Lib.hid (Bk.new3 w (.cells c.cs 42) (.cells ud0.cs 45) 45 ud0.cs)
  have V3 := Lib.hid (((HV.out.alloc (.cells c.cs 42)).alloc (.cells ud0.cs 45)).alloc (.cells ud0.cs 45))
  have BW := Lib.hid (show Below w.heap.size w (((w.alloc (.cells c.cs 42)).alloc (.cells ud0.cs 45)).alloc (.cells ud0.cs 45)) from (((Below.refl _ _).alloc (Nat.le_refl _) _).alloc (by simp) _).alloc (by simp; omega) _)
  obtain ⟨w3, hw3⟩ : ∃ w3, w3 = (((w.alloc (.cells c.cs 42)).alloc (.cells ud0.cs 45)).alloc (.cells ud0.cs 45)) := ⟨_, rfl⟩
  rw [← hw3] at KC KR KU V3 BW ⊢
  clear hw3
  obtain ⟨U, hU⟩ : ∃ U, U = w.heap.size + 1 + 1 := ⟨_, rfl⟩
  rw [← hU] at KU ⊢
  obtain ⟨R, hR⟩ : ∃ R, R = w.heap.size + 1 := ⟨_, rfl⟩
  rw [← hR] at KR ⊢
  obtain ⟨C, hC⟩ : ∃ C, C = w.heap.size := ⟨_, rfl⟩
  rw [← hC] at KC ⊢
  have SZ := Lib.hid (show C = w.heap.size ∧ R = w.heap.size + 1 ∧ U = w.heap.size + 1 + 1 ∧ U < w3.heap.size from ⟨hC, hR, hU, KU.out.lt⟩)
  clear hC hR hU
  have B3 := Lib.hid (below_then HB.out BW.out HB.out.size)
  have T3 := Lib.hid (Oth.below (b := b) (r := r) BW.out)
  have K3 := Lib.hid (HK.out.below BW.out W0.out)
  have CI := Lib.hid (insert_any V3.out HN.out HC.out (by decide) c.v c.kv c.m c.f (by have := HK.out.len; unfold maxLen at this; omega) K3.out.row)
  have CU := Lib.hid (update_any V3.out HN.out HC.out (by decide) c.id HK.out.id c.v)
  have CD := Lib.hid (delete_any V3.out HN.out HC.out (by decide) c.id HK.out.id)
  have x0 : w3.cell? ⟨C, 0, none⟩ = some (.int .i64 c.k) := KC.out.cell 0
  have x2 : w3.cell? ⟨C, 2, none⟩ = some (.int .i64 c.id) := KC.out.cell 2
  have x3 : w3.cell? ⟨C, 3, none⟩ = some (.string c.v) := KC.out.cell 3
  have x4 : w3.cell? ⟨C, 4, none⟩ = some c.kv := KC.out.cell 4
  clear HV HB HK K3 BW
  generalize c.k = ck at *
  generalize c.v = cv at *
  generalize c.kv = ckv at *
  generalize c.id = ci at *
  by_cases k0 : ck = 0
  · subst k0
    clear CU CD x2
    as_aux_lemma =>
      go_wp2_with fail
      refine CI.out.mono ?_
      rintro e w4 hp
      obtain ⟨x, u, er, rfl, hm⟩ := mid_ins V3.out HC.out hp
      clear hp CI
      obtain ⟨pg', M', hs, hg, ch', L', hc', hd⟩ := hm
      have V4 := Lib.hid hs; have HL := Lib.hid hc'; have HD := Lib.hid hd
      have B4 := Lib.hid (bl_grow B3.out hg (fun k hk => by cases hk; exact BB.out.1) B3.out.size)
      have T4 := Lib.hid (T3.out.grown hg (.inl rfl))
      have U4 := Lib.hid (KU.out.grown hg (fun e => by injection e with e; have := SZ.out; have := NEG.out; omega))
      have R4 := Lib.hid (KR.out.grown hg (fun e => by injection e with e; have := SZ.out; have := NEG.out; omega))
      clear hs hg hc' hd x0 x3 x4 V3 KU KR KC B3 T3 HC
      as_aux_lemma =>
        go_wp2_with (refine store_ud rfl _ _ rfl U u ud0 rfl rfl U4.out ?_; obtain ⟨w5, hw5⟩ : ∃ w5, w5 = World.setRow w4 U u.cs := ⟨_, rfl⟩; have V5 := Lib.hid (show SV w5 w0.heap.size g b gs r N M' pg pg' from by rw [hw5]; exact V4.out.row (by have := SZ.out; have := NEG.out; omega) _); have B5 := Lib.hid (show Below w0.heap.size w0 w5 from by rw [hw5]; exact below_row B4.out (by have := SZ.out; have := W0.out; omega)); have T5 := Lib.hid (show Oth w w5 b r from by rw [hw5]; exact T4.out.row (by have := SZ.out; omega) _); have U5 := Lib.hid (show Bk w5 U 45 u.cs from by rw [hw5]; exact ud_bk U4.out); have R5 := Lib.hid (show Bk w5 R 45 ud0.cs from by rw [hw5]; exact row_far R4.out (by have := SZ.out; omega)); rw [← hw5]; clear hw5 V4 B4 T4 U4 R4)
        have CL := Lib.hid (land_full V5.out B5.out er)
        refine CL.out.mono ?_
        rintro e w6 ⟨rfl, hs, hb, ho⟩
        have V6 := Lib.hid hs
        have U6 := Lib.hid (ho.bk U5.out (by have := SZ.out; have := NEG.out; omega) (by have := SZ.out; have := NEG.out; omega))
        have R6 := Lib.hid (ho.bk R5.out (by have := SZ.out; have := NEG.out; omega) (by have := SZ.out; have := NEG.out; omega))
        have FIN := Lib.hid (show DoPost w0 w g b gs r N n L (.returned (.tuple #[.agg u.cs, .int .i64 er])) (w6.setRow R u.cs) from
          ⟨u, er, _, ch', L', rfl, hs.row (by have := SZ.out; have := NEG.out; omega) _, HL.out, HD.out, below_row hb (by have := SZ.out; have := W0.out; omega), (T5.out.trans ho).row (by have := SZ.out; omega) _⟩)
        clear hs hb ho CL V5 B5 T5 U5 R5
        go_wp2_with (first | (refine load_ud rfl _ rfl U u rfl U6.out ?_) | (refine store_ud rfl _ _ rfl R u ud0 rfl rfl R6.out ?_))
        refine bodyPost_ret (ud_ct rfl _ _ R u (ud_bk R6.out) rfl) rfl ?_
        exact FIN.out
  · have k0b : (ck == 0) = false := by simp [k0]
    clear CI
    by_cases k2 : ck = 2
    · subst k2
      clear CD
      as_aux_lemma =>
        go_wp2_with fail
        refine CU.out.mono ?_
        rintro e w4 hp
        obtain ⟨u, er, rfl, hm⟩ := mid_upd V3.out HC.out hp
        clear hp CU k0b k0
        obtain ⟨pg', M', hs, hg, ch', L', hc', hd⟩ := hm
        have V4 := Lib.hid hs; have HL := Lib.hid hc'; have HD := Lib.hid hd
        have B4 := Lib.hid (bl_grow B3.out hg (fun k hk => by cases hk; exact BB.out.1) B3.out.size)
        have T4 := Lib.hid (T3.out.grown hg (.inl rfl))
        have U4 := Lib.hid (KU.out.grown hg (fun e => by injection e with e; have := SZ.out; have := NEG.out; omega))
        have R4 := Lib.hid (KR.out.grown hg (fun e => by injection e with e; have := SZ.out; have := NEG.out; omega))
        clear hs hg hc' hd x0 x2 x3 x4 V3 KU KR KC B3 T3 HC
        as_aux_lemma =>
          go_wp2_with (refine store_ud rfl _ _ rfl U u ud0 rfl rfl U4.out ?_; obtain ⟨w5, hw5⟩ : ∃ w5, w5 = World.setRow w4 U u.cs := ⟨_, rfl⟩; have V5 := Lib.hid (show SV w5 w0.heap.size g b gs r N M' pg pg' from by rw [hw5]; exact V4.out.row (by have := SZ.out; have := NEG.out; omega) _); have B5 := Lib.hid (show Below w0.heap.size w0 w5 from by rw [hw5]; exact below_row B4.out (by have := SZ.out; have := W0.out; omega)); have T5 := Lib.hid (show Oth w w5 b r from by rw [hw5]; exact T4.out.row (by have := SZ.out; omega) _); have U5 := Lib.hid (show Bk w5 U 45 u.cs from by rw [hw5]; exact ud_bk U4.out); have R5 := Lib.hid (show Bk w5 R 45 ud0.cs from by rw [hw5]; exact row_far R4.out (by have := SZ.out; omega)); rw [← hw5]; clear hw5 V4 B4 T4 U4 R4)
          have CL := Lib.hid (land_full V5.out B5.out er)
          refine CL.out.mono ?_
          rintro e w6 ⟨rfl, hs, hb, ho⟩
          have V6 := Lib.hid hs
          have U6 := Lib.hid (ho.bk U5.out (by have := SZ.out; have := NEG.out; omega) (by have := SZ.out; have := NEG.out; omega))
          have R6 := Lib.hid (ho.bk R5.out (by have := SZ.out; have := NEG.out; omega) (by have := SZ.out; have := NEG.out; omega))
          have FIN := Lib.hid (show DoPost w0 w g b gs r N n L (.returned (.tuple #[.agg u.cs, .int .i64 er])) (w6.setRow R u.cs) from
            ⟨u, er, _, ch', L', rfl, hs.row (by have := SZ.out; have := NEG.out; omega) _, HL.out, HD.out, below_row hb (by have := SZ.out; have := W0.out; omega), (T5.out.trans ho).row (by have := SZ.out; omega) _⟩)
          clear hs hb ho CL V5 B5 T5 U5 R5
          go_wp2_with (first | (refine load_ud rfl _ rfl U u rfl U6.out ?_) | (refine store_ud rfl _ _ rfl R u ud0 rfl rfl R6.out ?_))
          refine bodyPost_ret (ud_ct rfl _ _ R u (ud_bk R6.out) rfl) rfl ?_
          exact FIN.out
    · have k2b : (ck == 2) = false := by simp [k2]
      clear CU x3 x4
      by_cases k3 : ck = 3
      · subst k3
        as_aux_lemma =>
          go_wp2_with fail
          refine CD.out.mono ?_
          rintro e w4 hp
          obtain ⟨u, er, rfl, hm⟩ := mid_ch V3.out HC.out (fun c => show (2 : Int) ≠ 0 by decide) hp
          clear hp CD k0b k0 k2b k2
          obtain ⟨pg', M', hs, hg, ch', L', hc', hd⟩ := hm
          have V4 := Lib.hid hs; have HL := Lib.hid hc'; have HD := Lib.hid hd
          have B4 := Lib.hid (bl_grow B3.out hg (fun k hk => by cases hk; exact BB.out.1) B3.out.size)
          have T4 := Lib.hid (T3.out.grown hg (.inl rfl))
          have U4 := Lib.hid (KU.out.grown hg (fun e => by injection e with e; have := SZ.out; have := NEG.out; omega))
          have R4 := Lib.hid (KR.out.grown hg (fun e => by injection e with e; have := SZ.out; have := NEG.out; omega))
          clear hs hg hc' hd x0 x2 V3 KU KR KC B3 T3 HC
          as_aux_lemma =>
            go_wp2_with (refine store_ud rfl _ _ rfl U u ud0 rfl rfl U4.out ?_; obtain ⟨w5, hw5⟩ : ∃ w5, w5 = World.setRow w4 U u.cs := ⟨_, rfl⟩; have V5 := Lib.hid (show SV w5 w0.heap.size g b gs r N M' pg pg' from by rw [hw5]; exact V4.out.row (by have := SZ.out; have := NEG.out; omega) _); have B5 := Lib.hid (show Below w0.heap.size w0 w5 from by rw [hw5]; exact below_row B4.out (by have := SZ.out; have := W0.out; omega)); have T5 := Lib.hid (show Oth w w5 b r from by rw [hw5]; exact T4.out.row (by have := SZ.out; omega) _); have U5 := Lib.hid (show Bk w5 U 45 u.cs from by rw [hw5]; exact ud_bk U4.out); have R5 := Lib.hid (show Bk w5 R 45 ud0.cs from by rw [hw5]; exact row_far R4.out (by have := SZ.out; omega)); rw [← hw5]; clear hw5 V4 B4 T4 U4 R4)
            have CL := Lib.hid (land_full V5.out B5.out er)
            refine CL.out.mono ?_
            rintro e w6 ⟨rfl, hs, hb, ho⟩
            have V6 := Lib.hid hs
            have U6 := Lib.hid (ho.bk U5.out (by have := SZ.out; have := NEG.out; omega) (by have := SZ.out; have := NEG.out; omega))
            have R6 := Lib.hid (ho.bk R5.out (by have := SZ.out; have := NEG.out; omega) (by have := SZ.out; have := NEG.out; omega))
            have FIN := Lib.hid (show DoPost w0 w g b gs r N n L (.returned (.tuple #[.agg u.cs, .int .i64 er])) (w6.setRow R u.cs) from
              ⟨u, er, _, ch', L', rfl, hs.row (by have := SZ.out; have := NEG.out; omega) _, HL.out, HD.out, below_row hb (by have := SZ.out; have := W0.out; omega), (T5.out.trans ho).row (by have := SZ.out; omega) _⟩)
            clear hs hb ho CL V5 B5 T5 U5 R5
            go_wp2_with (first | (refine load_ud rfl _ rfl U u rfl U6.out ?_) | (refine store_ud rfl _ _ rfl R u ud0 rfl rfl R6.out ?_))
            refine bodyPost_ret (ud_ct rfl _ _ R u (ud_bk R6.out) rfl) rfl ?_
            exact FIN.out
      · have k3b : (ck == 3) = false := by simp [k3]
        clear CD x2
        have HL := Lib.hid (show Hc (landed 0 pg pg) n ch L from by rw [landed_zero]; exact HC.out)
        have HD := Lib.hid (show DoStep n L ud0 0 L from .inl ⟨rfl, rfl⟩)
        as_aux_lemma =>
          go_wp2_with fail
          have CL := Lib.hid (land_full V3.out B3.out 0)
          refine CL.out.mono ?_
          rintro e w6 ⟨rfl, hs, hb, ho⟩
          have V6 := Lib.hid hs
          have U6 := Lib.hid (ho.bk KU.out (by have := SZ.out; have := NEG.out; omega) (by have := SZ.out; have := NEG.out; omega))
          have R6 := Lib.hid (ho.bk KR.out (by have := SZ.out; have := NEG.out; omega) (by have := SZ.out; have := NEG.out; omega))
          have FIN := Lib.hid (show DoPost w0 w g b gs r N n L (.returned (.tuple #[.agg ud0.cs, .int .i64 0])) (w6.setRow R ud0.cs) from
            ⟨ud0, 0, _, ch, L, rfl, hs.row (by have := SZ.out; have := NEG.out; omega) _, HL.out, HD.out, below_row hb (by have := SZ.out; have := W0.out; omega), (T3.out.trans ho).row (by have := SZ.out; omega) _⟩)
          clear hs hb ho CL V3 B3 T3 KU KR
          go_wp2_with (first | (refine load_ud rfl _ rfl U ud0 rfl U6.out ?_) | (refine store_ud rfl _ _ rfl R ud0 ud0 rfl rfl R6.out ?_))
          refine bodyPost_ret (ud_ct rfl _ _ R ud0 (ud_bk R6.out) rfl) rfl ?_
          exact FIN.out
end Go.Proofs.Ytdhfcjplnbnkdaa
