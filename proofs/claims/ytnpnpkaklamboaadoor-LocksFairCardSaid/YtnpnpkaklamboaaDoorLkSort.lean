/- The library's sort at rows of elements of k cells, wherever they lie. Pairs compared. -/
import Derived.Test.YtnpnpkaklamboaaDoorLkArc
import Derived.Test.YtnpnpkaklamboaaDoorShelfP
import Derived.Test.YtnpnpkaklamboaaDoorTail
import Derived.Shelf.SlSortCmp.QuietGrown
set_option linter.unusedVariables false
set_option linter.unusedSimpArgs false
namespace Go.Proofs.YtnpnpkaklamboaaDoor
open Go.RowKit Go.Shelf Go.Sort

section
variable {α : Type} [Inhabited α] {enc : α → List Value} {k : Nat}
theorem flat_any (hk : ∀ x, (enc x).length = k) (hk0 : 0 < k) (l : List α) : flatK enc k l.toArray = (l.flatMap enc).toArray := by
  apply Array.ext
  · simp only [size_flatK, List.size_toArray]
    rw [fl_len hk]
  · intro t h1 h2
    have ht : t < l.toArray.size * k := by simpa using h1
    have ht2 : t < l.length * k := by simpa using ht
    obtain ⟨j, i, hj, hi, rfl⟩ := fl_split hk0 ht2
    have hg := get_flatK enc k l.toArray (j * k + i) ht
    rw [getElem!_pos (flatK enc k l.toArray) _ h1] at hg
    rw [hg]
    have e1 : (j * k + i) / k = j := by rw [Nat.mul_comm, Nat.mul_add_div hk0, Nat.div_eq_of_lt hi, Nat.add_zero]
    have e2 : (j * k + i) % k = i := by rw [Nat.mul_comm, Nat.mul_add_mod, Nat.mod_eq_of_lt hi]
    rw [e1, e2]
    have h5 : l.toArray[j]! = l[j] := by simp [hj]
    rw [h5]
    have h4 : (l.flatMap enc)[j * k + i]? = some ((l.flatMap enc).toArray[j * k + i]'h2) := by
      rw [List.getElem?_eq_getElem (by simpa using h2)]; rfl
    rw [fl_at hk l j hj i hi] at h4
    have h6 : i < (enc l[j]).length := by rw [hk]; exact hi
    rw [getElem!_pos (enc l[j]) _ h6]
    rw [List.getElem?_eq_getElem h6] at h4
    exact Option.some.inj h4
theorem RkAt.holds {w : World} {e : TypeId} {b off cap : Nat} {cur : Array Value} {l : List α} (h : RkAt w e k enc b off cap cur l) (hk : ∀ x, (enc x).length = k) (hk0 : 0 < k) : HoldsK enc k w b off l.toArray := by
  show Holds id w b off (flatK enc k l.toArray)
  rw [flat_any hk hk0]
  intro m hm
  refine ⟨?_, h.bk.fz _⟩
  have hm' : m < (l.flatMap enc).length := by simpa using hm
  rw [h.flat_cell hk hk0 (List.getElem?_eq_getElem hm')]
  rw [getElem!_pos (l.flatMap enc).toArray _ hm]
  rfl
theorem RkAt.sorted {w : World} {e : TypeId} {b off cap : Nat} {cur : Array Value} {l l' : List α} (h : RkAt w e k enc b off cap cur l) (hk : ∀ x, (enc x).length = k) (hk0 : 0 < k) (hl : l'.length = l.length) (n : Nat) (os : Array Obj) :
    RkAt (sortWorldK enc k w b off n l'.toArray os) e k enc b off cap (putCells id off (l'.flatMap enc).toArray cur) l' ∧ w.grownBy (sortWorldK enc k w b off n l'.toArray os) (some b) := by
  have hb := h.bk
  have hlt := hb.lt
  have e1 : sortWorldK enc k w b off n l'.toArray os = grow (Go.Sort.putRow id (Sort.ahead w n) b off (l'.flatMap enc).toArray) os := by
    unfold sortWorldK putRowK
    rw [flat_any hk hk0]
  rw [e1]
  have bk : (grow (Go.Sort.putRow id (Sort.ahead w n) b off (l'.flatMap enc).toArray) os).heap[b]? = some (.cells (putCells id off (l'.flatMap enc).toArray cur) e (0, 0)) := by
    rw [heap_grow_old _ _ (by simpa using hlt)]
    have hb' : w.heap[b]? = some (.cells cur e (0, 0)) := hb
    simp [Go.Sort.putRow, mapBlock, Sort.ahead, Array.getElem?_modify, hb', onCells]
  refine ⟨RkAt.of_flat hk bk (by rw [hl]; exact h.le) h.mx (by simpa [putCells] using h.sz) fun m hm => ?_, ⟨rfl, rfl, rfl, by simp, fun q hq hne => ?_⟩⟩
  · have hm' : m < (l'.flatMap enc).length := by rw [fl_len hk]; exact hm
    have hsz : off + m < cur.size := by
      have := h.sz
      have a := Nat.mul_le_mul_right k h.le
      rw [hl] at hm
      omega
    have hsz2 : m < (l'.flatMap enc).toArray.size := by simpa using hm'
    simp only [putCells]
    rw [Array.getElem?_mapIdx]
    rw [Array.getElem?_eq_getElem hsz]
    simp only [Option.map_some]
    rw [if_pos ⟨Nat.le_add_right _ _, by omega⟩, show off + m - off = m by omega, getElem!_pos (l'.flatMap enc).toArray _ hsz2, List.getElem?_eq_getElem hm']
    rfl
  · rw [heap_grow_old _ _ (by simpa using hq)]
    have : b ≠ q := fun e => hne (by rw [e])
    simp [Go.Sort.putRow, mapBlock, Sort.ahead, Array.getElem?_modify, this]
end
theorem isnan_any (x : Int) (w : World) : Calls Tryd.prog 48 #[.int .i64 x] w fun e w' => e = .returned (.bool false) ∧ w' = w := by
  go_enter Tryd.func48, Tryd.ntmps48
  go_wp2
  go_ret
  exact ⟨rfl, rfl⟩
theorem cmpint_any (x y : Int) (w : World) : Calls Tryd.prog 28 #[.int .i64 x, .int .i64 y] w fun e w' => e = .returned (.int .i64 (cmpI x y)) ∧ w' = w := compare_int x y w
/-- The first that is not 0. -/
def orI (x y : Int) : Int := if x = 0 then y else x
set_option maxRecDepth 100000 in
set_option maxHeartbeats 1000000 in
theorem or_any (x y : Int) (b : Nat) (w : World) (hb : Bk w b 3 #[.int .i64 x, .int .i64 y]) : Calls Tryd.prog 27 #[.slice (some ⟨b, 0, none⟩) 2 2] w fun e w' => e = .returned (.int .i64 (orI x y)) ∧ w' = w := by
  have y0 : w.cell? ⟨b, 0, none⟩ = some (.int .i64 x) := hb.cell 0
  have y1 : w.cell? ⟨b, 1, none⟩ = some (.int .i64 y) := hb.cell 1
  obtain ⟨o, ho⟩ : ∃ o, o = orI x y := ⟨_, rfl⟩
  have HO := Lib.hid ho
  rw [← ho]
  clear hb ho
  go_enter Tryd.func27, Tryd.ntmps27
  go_wp2_with fail
  go_loopw [8] (fun s8 wr => wr = w ∧ (s8 = .int .i64 0 ∨ (s8 = .int .i64 1 ∧ x = 0) ∨ (s8 = .int .i64 2 ∧ x = 0 ∧ y = 0))) (fun s8 _ => 2 - (intOf s8).toNat)
  case atStart => exact ⟨rfl, .inl rfl⟩
  case round =>
    obtain ⟨rfl, rfl | ⟨rfl, h1⟩ | ⟨rfl, h1, h2⟩⟩ := hrel
    · by_cases h : x = 0
      · subst h
        go_wp2
        go_roundw
        case rel => simp
        case measure => simp [intOf]
      · obtain rfl : o = x := by rw [HO.out]; exact if_neg h
        have hz : (o != 0) = true := by simp [h]
        clear HO
        go_wp2
        go_ret
        exact ⟨rfl, rfl⟩
    · by_cases h : y = 0
      · subst h
        subst h1
        go_wp2
        go_roundw
        case rel => simp
        case measure => simp [intOf]
      · obtain rfl : o = y := by rw [HO.out]; exact if_pos h1
        have hz : (o != 0) = true := by simp [h]
        clear HO h1
        go_wp2
        go_ret
        exact ⟨rfl, rfl⟩
    · obtain rfl : o = 0 := by rw [HO.out]; unfold orI; rw [if_pos h1, h2]
      subst h1 h2
      clear HO
      go_wp2
      go_ret
      exact ⟨rfl, rfl⟩
def cfP (p q : Int × Int) : Int := orI (cmpI p.1 q.1) (cmpI p.2 q.2)
theorem grown_same {P : Program} {f : FuncId} {args : Array Value} {w : World} {n : Nat} {os : Array Obj} {v : Value}
    (h : Calls P f args (grow (w.drewN n) os) fun e w' => e = .returned v ∧ w' = grow (w.drewN n) os) : Calls P f args (grow (w.drewN n) os) fun e w'' => e = .returned v ∧ ∃ p : GrownBy, w'' = grow (w.drewN p.n) p.os :=
  h.mono fun _ _ ⟨he, hq⟩ => ⟨he, ⟨n, os⟩, hq⟩
end Go.Proofs.YtnpnpkaklamboaaDoor
