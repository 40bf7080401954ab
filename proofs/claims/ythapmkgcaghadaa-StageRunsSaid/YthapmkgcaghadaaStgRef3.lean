/- The reference's Set. -/
import Derived.Test.YthapmkgcaghadaaStgRef2
set_option linter.unusedVariables false
set_option linter.unusedSimpArgs false
namespace Go.Proofs.Ythapmkgcaghadaa
open Go.RowKit Go.Maps Go.BigFrame

set_option maxRecDepth 100000 in
set_option maxHeartbeats 1000000 in
theorem rset_no {w : World} {t : Nat} (id : Int) (p : Pg) (hx : ¬ sok id p) :
    Calls Try.prog 13 #[.pointer (some ⟨t, 0, none⟩), .int .i64 id, .agg p.cs] w fun e w' => e = .returned (.int .i64 1) ∧ Below w.heap.size w w' := by
  have Z := Lib.hid (Bk.new w 42 p.cs)
  have B0 := Lib.hid ((Below.refl w.heap.size w).alloc (Nat.le_refl _) (.cells p.cs 42))
  have CK := Lib.hid (rright_any p (w.alloc (.cells p.cs 42)))
  unfold Pg.v at CK
  have HX := Lib.hid hx
  clear hx
  go_enter Try.func13, Try.ntmps13
  go_upto_region 1 with fail
  generalize w.alloc (.cells p.cs 42) = w0 at *
  obtain ⟨G, hG⟩ : ∃ G, G = w.heap.size := ⟨_, rfl⟩
  rw [← hG] at Z ⊢
  clear hG
  by_cases h1 : id < 0
  · go_wp2
    go_ret
    exact ⟨rfl, B0.out⟩
  by_cases h2 : (1023 : Int) < id
  · go_wp2
    go_ret
    exact ⟨rfl, B0.out⟩
  have he : decide p.ok = false := decide_eq_false fun h => HX.out ⟨by omega, by omega, h⟩
  rw [he] at CK
  go_wp2_with (refine load_page_if _ rfl (by first | rfl | kernel_rfl) G p rfl Z.out ?_)
  refine CK.out.mono ?_
  rintro e w1 ⟨rfl, hb⟩
  have B1 := Lib.hid (below_then B0.out hb B0.out.size)
  clear hb
  go_wp2
  go_ret
  exact ⟨rfl, B1.out⟩
theorem stepS_len (id : Int) (p : Pg) : ∀ (l : List Im) (st : List Im × Bool), (l.foldl (stepS id p) st).1.length ≤ st.1.length + 2 * l.length
  | [], st => by simp
  | i :: l, st => by
    rw [List.foldl_cons]
    have := stepS_len id p l (stepS id p st i)
    have h1 : (stepS id p st i).1.length ≤ st.1.length + 2 := by
      unfold stepS
      dsimp only
      split <;> split <;> simp
    rw [List.length_cons]
    omega
theorem RT.stored {w w1 : World} {B k r t : Nat} {ps : List Pg} {v v2 : Value} {l l2 : List Im} (h : RT w B k r ps t v l) (hb : Below w.heap.size w w1) (ho : IOwn w1 w.heap.size v2 l2) (hB : B ≤ w.heap.size) (hu : Rising l2) (hi : ∀ i ∈ l2, (0 ≤ i.id ∧ i.id < 1024) ∧ i.p.ok) :
    RT (w1.setCell ⟨t, 1, none⟩ v2) B k r ps t v2 l2 := by
  have h1 := h.kept hb
  have ht : t < w.heap.size := h.box.lt
  have far : ∀ {q : Nat}, q ≠ t → (w1.setCell ⟨t, 1, none⟩ v2).heap[q]? = w1.heap[q]? := fun {q} hq => Below.heap_setCell w1 ⟨t, 1, none⟩ v2 q hq
  have kt : k ≠ t := Bk.ne_ h1.sh.box h1.box (by decide)
  have rt : r ≠ t := Bk.ne_ h1.sh.row h1.box (by decide)
  refine ⟨⟨(far kt).trans h1.sh.box, h1.sh.row.of_block (far rt), h1.sh.one, h1.sh.most, h1.sh.bk, h1.sh.br⟩, h1.box.set 1 v2, ?_, h.bt, hu, hi⟩
  exact ow_mono (ow_same ho fun q hq => far (by have := (ow_blk ho hq).1; omega)) hB
set_option maxRecDepth 100000 in
set_option maxHeartbeats 4000000 in
theorem rset_yes {w : World} {B k r t : Nat} {ps : List Pg} {v : Value} {l : List Im} (h : RT w B k r ps t v l) (hB : B ≤ w.heap.size) (id : Int) (p : Pg) (hx : sok id p) :
    Calls Try.prog 13 #[.pointer (some ⟨t, 0, none⟩), .int .i64 id, .agg p.cs] w fun e w' => e = .returned (.int .i64 0) ∧ ∃ v', RT w' B k r ps t v' (ins id p l) ∧ w.grownBy w' (some t) := by
  obtain ⟨j0, hji0, hy0, hy1, hy2⟩ := info_parts Try.info59
  have LN := Lib.hid h.len
  have FIN := Lib.hid (fun (w1 : World) (v2 : Value) (hb : Below w.heap.size w w1) (ho : IOwn w1 w.heap.size v2 (ins id p l)) => h.stored hb ho hB (ins_rising h.up) (ins_all h.ids ⟨⟨hx.1, hx.2.1⟩, hx.2.2⟩))
  have SI := Lib.hid (show finS id p (l.foldl (stepS id p) ([], false)) = ins id p l by have := stepS_ins id p l [] h.up; simpa using this)
  have H := Lib.hid h
  obtain ⟨va, vc, rfl⟩ := ow_slice h.own
  have h1 : ¬ id < 0 := by have := hx.1; omega
  have h2 : ¬ (1023 : Int) < id := by have := hx.2.1; omega
  have Z := Lib.hid (Bk.new w 42 p.cs)
  have B0 := Lib.hid ((Below.refl w.heap.size w).alloc (Nat.le_refl _) (.cells p.cs 42))
  have CK := Lib.hid (rright_any p (w.alloc (.cells p.cs 42)))
  rw [decide_eq_true hx.2.2] at CK
  unfold Pg.v at CK
  clear h hx
  obtain ⟨nw, hnw⟩ : ∃ nw : Im, nw = ⟨id, p⟩ := ⟨_, rfl⟩
  have NW := Lib.hid hnw
  clear hnw
  go_enter Try.func13, Try.ntmps13
  go_upto_region 1 with fail
  generalize w.alloc (.cells p.cs 42) = w0 at *
  obtain ⟨G, hG⟩ : ∃ G, G = w.heap.size := ⟨_, rfl⟩
  rw [← hG] at Z ⊢
  have GL := Lib.hid hG
  clear hG
  go_wp2_with (refine load_page_if _ rfl (by first | rfl | kernel_rfl) G p rfl Z.out ?_)
  refine CK.out.mono ?_
  rintro e w1 ⟨rfl, hb⟩
  have B1 := Lib.hid (below_then B0.out hb B0.out.size)
  have Z1 := Lib.hid (Z.out.kept hb)
  clear hb CK Z B0 h1 h2
  as_aux_lemma =>
    go_wp2_with fail
    go_loopw [7, 8, 9] (fun x d i wr => ∃ (j : Nat) (st : List Im × Bool), j ≤ l.length ∧ i = .int .i64 j ∧ st = (l.take j).foldl (stepS id p) ([], false) ∧ IOwn wr (w.heap.size + 1) x st.1 ∧ d = .bool st.2 ∧ Bk wr G 42 p.cs ∧ Below w.heap.size w wr ∧ w.heap.size + 1 ≤ wr.heap.size) (fun _ _ i _ => l.length - (intOf i).toNat)
    case atStart => exact ⟨0, _, Nat.zero_le _, rfl, rfl, World.ownsRow_nil _ _ _ _, rfl, Z1.out, B1.out, by have := Z1.out.lt; have := GL.out; omega⟩
    case round =>
      obtain ⟨j, st, hj, rfl, hst, hO, rfl, hZ, hb, hsz⟩ := hrel
      obtain ⟨out, dn⟩ := st
      dsimp only at hO
      obtain ⟨xa, xc, hxe⟩ := ow_slice hO
      subst hxe
      have O0 := Lib.hid hO; have Z2 := Lib.hid hZ; have W0 := Lib.hid hb; have ST := Lib.hid hst; have SZ := Lib.hid hsz
      have H1 := Lib.hid (H.out.kept hb)
      have OL := Lib.hid (show out.length ≤ 2048 by
        have h3 := stepS_len id p (l.take j) ([], false)
        rw [← hst, List.length_take] at h3
        have := LN.out
        simp at h3
        omega)
      clear hst hO hZ hb hsz Z1 B1
      dsimp only
      by_cases hlt : j < l.length
      · obtain ⟨m, hm⟩ : ∃ m, l[j]? = some m := ⟨_, List.getElem?_eq_getElem hlt⟩
        have HLT := Lib.hid hlt
        have hjb : j < 1024 := by have := LN.out; omega
        obtain ⟨g, rfl, hrow⟩ := H1.out.irow (by omega)
        have RW := Lib.hid hrow
        have HM := Lib.hid hm
        have c1 : wr.cell? ⟨t, 1, none⟩ = some (.slice (some ⟨g, 0, none⟩) l.length vc) := H1.out.box.cell 1
        have q0 : wr.cell? ⟨g, j * 17, none⟩ = some (.int .i64 m.id) := hrow.id_cell hm
        have hji : (j : Int) < (l.length : Int) := by omega
        have TK := Lib.hid (show (l.take (j + 1)).foldl (stepS id p) ([], false) = stepS id p (out, dn) m by
          rw [List.take_add_one, hm, List.foldl_append, ← ST.out]; rfl)
        clear hm hrow
        by_cases hA : id ≤ m.id ∧ dn = false
        · obtain ⟨hA1, rfl⟩ := hA
          have A1 := Lib.hid hA1
          have O3a := Lib.hid (show (wr.alloc (.cells nw.cs 59)).ownsRow (w.heap.size + 1) 59 17 (.slice xa out.length xc) out.length (flatIm out) from World.ownsRow.alloc O0.out _)
          go_wp2_with (first
            | (refine load_page rfl _ rfl G p rfl Z2.out ?_)
            | (refine build_im rfl _ _ rfl nw (by rw [NW.out]; rfl) (by rw [NW.out]; rfl) ?_)
            | (refine slice1_im rfl _ rfl nw rfl ?_)
            | (at_builtin; refine wpList_append_one _ rfl _ _ 35 rfl (w.heap.size + 1) 59 j0 (.agg Im.zero.cs) 17 184 Try.underlying35 hji0 hy0 hy1 hy2 rfl (.slice xa out.length xc) out.length (flatIm out) rfl O3a.out ⟨wr.heap.size, 0, none⟩ 1 nw.cs.toList rfl rfl ?qb2 ?qb3 ?qb4 (by omega) ?qb5 ?qb6 ?_))
          case qb2 =>
            intro q x hx
            rw [Addr.add_lit, Nat.zero_add]
            refine Eq.trans ((Bk.new wr 59 nw.cs).cell q) ?_
            simpa using hx
          case qb3 => simp [Im.cs, Pg.cs, Value.oneCell']
          case qb4 => have := OL.out; unfold maxLen; omega
          case qb5 => have := OL.out; omega
          case qb6 => have := SZ.out; simp; omega
          intro v3 w3 hown hgrow
          obtain ⟨ya3, yc3, hye⟩ := ow_slice hown
          subst hye
          have O3 := Lib.hid (show IOwn w3 (w.heap.size + 1) (.slice ya3 (out.length + 1) yc3) (out ++ [nw]) by
            unfold IOwn
            rw [flatIm_app, List.length_append, List.length_singleton]
            exact hown)
          have Z3 := Lib.hid (show Bk w3 G 42 p.cs from (Z2.out.alloc (.cells nw.cs 59)).grown hgrow (fun e => by have := (ow_blk O3a.out e.symm).1; have := GL.out; omega))
          have W3 := Lib.hid (bl_grow (W0.out.alloc W0.out.size (.cells nw.cs 59)) hgrow (fun j hj => by have := (ow_blk O3a.out hj).1; omega) (by have := W0.out.size; simp; omega))
          have SZ3 := Lib.hid (show w.heap.size + 1 ≤ w3.heap.size by have h1 := hgrow.size; have h2 := SZ.out; simp at h1; omega)
          clear hown hgrow
          have H3 := Lib.hid (H.out.kept W3.out)
          have R3 := Lib.hid (show IRow w3 g l by
            obtain ⟨g', hg', hh⟩ := H3.out.irow (by have := HLT.out; omega)
            obtain rfl : g = g' := by simpa using hg'
            exact hh)
          have c3 : w3.cell? ⟨t, 1, none⟩ = some (.slice (some ⟨g, 0, none⟩) l.length vc) := H3.out.box.cell 1
          have q3 : w3.cell? ⟨g, j * 17, none⟩ = some (.int .i64 m.id) := R3.out.id_cell HM.out
          clear c1 q0
          by_cases hE : m.id = id
          · have S2 := Lib.hid (show (out ++ [nw], true) = (l.take (j + 1)).foldl (stepS id p) ([], false) by
              rw [TK.out]; unfold stepS; dsimp only; rw [if_pos hE, if_pos ⟨A1.out, rfl⟩, NW.out])
            go_wp2_with fail
            go_roundw
            case rel => exact ⟨j + 1, _, by have := HLT.out; omega, by go_num, S2.out, O3.out, rfl, Z3.out, W3.out, SZ3.out⟩
            case measure => have := HLT.out; simp [intOf]; omega
          · have S2 := Lib.hid (show (out ++ [nw] ++ [m], true) = (l.take (j + 1)).foldl (stepS id p) ([], false) by
              rw [TK.out]; unfold stepS; dsimp only; rw [if_neg hE, if_pos ⟨A1.out, rfl⟩, NW.out])
            have O5a := Lib.hid (show (w3.alloc (.cells m.cs 59)).ownsRow (w.heap.size + 1) 59 17 (.slice ya3 (out.length + 1) yc3) (out.length + 1) (flatIm (out ++ [nw])) by have := O3.out; unfold IOwn at this; rw [List.length_append, List.length_singleton] at this; exact World.ownsRow.alloc this _)
            go_wp2_with (first
              | (refine load_page rfl _ rfl G p rfl Z3.out ?_)
              | (refine load_im_at rfl _ rfl g l j m HM.out rfl R3.out ?_)
              | (refine slice1_im rfl _ rfl m rfl ?_)
              | (at_builtin; refine wpList_append_one _ rfl _ _ 35 rfl (w.heap.size + 1) 59 j0 (.agg Im.zero.cs) 17 184 Try.underlying35 hji0 hy0 hy1 hy2 rfl (.slice ya3 (out.length + 1) yc3) (out.length + 1) (flatIm (out ++ [nw])) rfl O5a.out ⟨w3.heap.size, 0, none⟩ 1 m.cs.toList rfl rfl ?qc2 ?qc3 ?qc4 (by omega) ?qc5 ?qc6 ?_))
            case qc2 =>
              intro q x hx
              rw [Addr.add_lit, Nat.zero_add]
              refine Eq.trans ((Bk.new w3 59 m.cs).cell q) ?_
              simpa using hx
            case qc3 => simp [Im.cs, Pg.cs, Value.oneCell']
            case qc4 => have := OL.out; unfold maxLen; omega
            case qc5 => have := OL.out; omega
            case qc6 => have := SZ3.out; simp; omega
            intro v5 w5 hown hgrow
            obtain ⟨ya5, yc5, hye⟩ := ow_slice hown
            subst hye
            have O5 := Lib.hid (show IOwn w5 (w.heap.size + 1) (.slice ya5 ((out.length + 1) + 1) yc5) ((out ++ [nw]) ++ [m]) by
              unfold IOwn
              rw [flatIm_app (out ++ [nw]) m, List.length_append, List.length_append, List.length_singleton, List.length_singleton]
              exact hown)
            have Z5 := Lib.hid (show Bk w5 G 42 p.cs from (Z3.out.alloc (.cells m.cs 59)).grown hgrow (fun e => by have := (ow_blk O5a.out e.symm).1; have := GL.out; omega))
            have W5 := Lib.hid (bl_grow (W3.out.alloc W3.out.size (.cells m.cs 59)) hgrow (fun j hj => by have := (ow_blk O5a.out hj).1; omega) (by have := W3.out.size; simp; omega))
            have SZ5 := Lib.hid (show w.heap.size + 1 ≤ w5.heap.size by have h1 := hgrow.size; have h2 := SZ3.out; simp at h1; omega)
            clear hown hgrow
            go_wp2_with fail
            go_roundw
            case rel => exact ⟨j + 1, _, by have := HLT.out; omega, by go_num, S2.out, O5.out, rfl, Z5.out, W5.out, SZ5.out⟩
            case measure => have := HLT.out; simp [intOf]; omega
        · have A1 := Lib.hid hA
          by_cases hE : m.id = id
          · have S2 := Lib.hid (show (out, dn) = (l.take (j + 1)).foldl (stepS id p) ([], false) by
              rw [TK.out]; unfold stepS; dsimp only; rw [if_pos hE, if_neg A1.out])
            obtain rfl : dn = true := by
              cases dn
              · exact absurd ⟨by omega, rfl⟩ hA
              · rfl
            clear hA
            go_wp2_with fail
            go_roundw
            case rel => exact ⟨j + 1, _, by have := HLT.out; omega, by go_num, S2.out, O0.out, rfl, Z2.out, W0.out, SZ.out⟩
            case measure => have := HLT.out; simp [intOf]; omega
          · have S2 := Lib.hid (show (out ++ [m], dn) = (l.take (j + 1)).foldl (stepS id p) ([], false) by
              rw [TK.out]; unfold stepS; dsimp only; rw [if_neg hE, if_neg A1.out])
            have hA2 : (id ≤ m.id → dn = true) := fun h => by
              cases dn
              · exact absurd ⟨h, rfl⟩ hA
              · rfl
            clear hA
            by_cases hle : id ≤ m.id
            · obtain rfl := hA2 hle
              clear hA2
              have O3a := Lib.hid (show (wr.alloc (.cells m.cs 59)).ownsRow (w.heap.size + 1) 59 17 (.slice xa out.length xc) out.length (flatIm out) from World.ownsRow.alloc O0.out _)
              go_wp2_with (first
                | (refine load_page rfl _ rfl G p rfl Z2.out ?_)
                | (refine load_im_at rfl _ rfl g l j m HM.out rfl RW.out ?_)
                | (refine slice1_im rfl _ rfl m rfl ?_)
                | (at_builtin; refine wpList_append_one _ rfl _ _ 35 rfl (w.heap.size + 1) 59 j0 (.agg Im.zero.cs) 17 184 Try.underlying35 hji0 hy0 hy1 hy2 rfl (.slice xa out.length xc) out.length (flatIm out) rfl O3a.out ⟨wr.heap.size, 0, none⟩ 1 m.cs.toList rfl rfl ?qd2 ?qd3 ?qd4 (by omega) ?qd5 ?qd6 ?_))
              case qd2 =>
                intro q x hx
                rw [Addr.add_lit, Nat.zero_add]
                refine Eq.trans ((Bk.new wr 59 m.cs).cell q) ?_
                simpa using hx
              case qd3 => simp [Im.cs, Pg.cs, Value.oneCell']
              case qd4 => have := OL.out; unfold maxLen; omega
              case qd5 => have := OL.out; omega
              case qd6 => have := SZ.out; simp; omega
              intro v3 w3 hown hgrow
              obtain ⟨ya3, yc3, hye⟩ := ow_slice hown
              subst hye
              have O3 := Lib.hid (show IOwn w3 (w.heap.size + 1) (.slice ya3 (out.length + 1) yc3) (out ++ [m]) by
                unfold IOwn
                rw [flatIm_app, List.length_append, List.length_singleton]
                exact hown)
              have Z3 := Lib.hid (show Bk w3 G 42 p.cs from (Z2.out.alloc (.cells m.cs 59)).grown hgrow (fun e => by have := (ow_blk O3a.out e.symm).1; have := GL.out; omega))
              have W3 := Lib.hid (bl_grow (W0.out.alloc W0.out.size (.cells m.cs 59)) hgrow (fun j hj => by have := (ow_blk O3a.out hj).1; omega) (by have := W0.out.size; simp; omega))
              have SZ3 := Lib.hid (show w.heap.size + 1 ≤ w3.heap.size by have h1 := hgrow.size; have h2 := SZ.out; simp at h1; omega)
              clear hown hgrow
              go_wp2_with fail
              go_roundw
              case rel => exact ⟨j + 1, _, by have := HLT.out; omega, by go_num, S2.out, O3.out, rfl, Z3.out, W3.out, SZ3.out⟩
              case measure => have := HLT.out; simp [intOf]; omega
            · clear hA2
              have O3a := Lib.hid (show (wr.alloc (.cells m.cs 59)).ownsRow (w.heap.size + 1) 59 17 (.slice xa out.length xc) out.length (flatIm out) from World.ownsRow.alloc O0.out _)
              go_wp2_with (first
                | (refine load_page rfl _ rfl G p rfl Z2.out ?_)
                | (refine load_im_at rfl _ rfl g l j m HM.out rfl RW.out ?_)
                | (refine slice1_im rfl _ rfl m rfl ?_)
                | (at_builtin; refine wpList_append_one _ rfl _ _ 35 rfl (w.heap.size + 1) 59 j0 (.agg Im.zero.cs) 17 184 Try.underlying35 hji0 hy0 hy1 hy2 rfl (.slice xa out.length xc) out.length (flatIm out) rfl O3a.out ⟨wr.heap.size, 0, none⟩ 1 m.cs.toList rfl rfl ?qe2 ?qe3 ?qe4 (by omega) ?qe5 ?qe6 ?_))
              case qe3 => simp [Im.cs, Pg.cs, Value.oneCell']
              case qe4 => have := OL.out; unfold maxLen; omega
              case qe5 => have := OL.out; omega
              case qe6 => have := SZ.out; simp; omega
              intro v3 w3 hown hgrow
              obtain ⟨ya3, yc3, hye⟩ := ow_slice hown
              subst hye
              have O3 := Lib.hid (show IOwn w3 (w.heap.size + 1) (.slice ya3 (out.length + 1) yc3) (out ++ [m]) by
                unfold IOwn
                rw [flatIm_app, List.length_append, List.length_singleton]
                exact hown)
              have Z3 := Lib.hid (show Bk w3 G 42 p.cs from (Z2.out.alloc (.cells m.cs 59)).grown hgrow (fun e => by have := (ow_blk O3a.out e.symm).1; have := GL.out; omega))
              have W3 := Lib.hid (bl_grow (W0.out.alloc W0.out.size (.cells m.cs 59)) hgrow (fun j hj => by have := (ow_blk O3a.out hj).1; omega) (by have := W0.out.size; simp; omega))
              have SZ3 := Lib.hid (show w.heap.size + 1 ≤ w3.heap.size by have h1 := hgrow.size; have h2 := SZ.out; simp at h1; omega)
              clear hown hgrow
              go_wp2_with fail
              go_roundw
              case rel => exact ⟨j + 1, _, by have := HLT.out; omega, by go_num, S2.out, O3.out, rfl, Z3.out, W3.out, SZ3.out⟩
              case measure => have := HLT.out; simp [intOf]; omega
      · have hjn : j = l.length := by omega
        subst hjn
        rw [List.take_length] at ST
        clear hlt hj
        by_cases hd : dn = true
        · subst hd
          have E := Lib.hid (show out = ins id p l by rw [← SI.out, ← ST.out]; unfold finS; rw [if_pos rfl])
          have RS1 := Lib.hid (FIN.out wr _ W0.out (by rw [← E.out]; exact ow_mono O0.out (by omega)))
          have c1 : wr.cell? ⟨t, 1, none⟩ = some (.slice va l.length vc) := H1.out.box.cell 1
          have f1 := H1.out.box.fz 1
          have TL := Lib.hid (H.out.box.lt)
          go_wp2_with fail
          go_ret
          refine ⟨rfl, _, RS1.out, ?_⟩
          exact only_trans (only_below W0.out (some t)) ⟨rfl, rfl, rfl, by simp [World.setCell], fun q _ hq => Below.heap_setCell wr ⟨t, 1, none⟩ _ q (fun e => hq (by rw [e]))⟩
        · obtain rfl : dn = false := by simpa using hd
          have E := Lib.hid (show out ++ [nw] = ins id p l by rw [← SI.out, ← ST.out, NW.out]; unfold finS; rw [if_neg (by simp)])
          clear hd
          have c1 : wr.cell? ⟨t, 1, none⟩ = some (.slice va l.length vc) := H1.out.box.cell 1
          have O3a := Lib.hid (show (wr.alloc (.cells nw.cs 59)).ownsRow (w.heap.size + 1) 59 17 (.slice xa out.length xc) out.length (flatIm out) from World.ownsRow.alloc O0.out _)
          go_wp2_with (first
            | (refine load_page rfl _ rfl G p rfl Z2.out ?_)
            | (refine build_im rfl _ _ rfl nw (by rw [NW.out]; rfl) (by rw [NW.out]; rfl) ?_)
            | (refine slice1_im rfl _ rfl nw rfl ?_)
            | (at_builtin; refine wpList_append_one _ rfl _ _ 35 rfl (w.heap.size + 1) 59 j0 (.agg Im.zero.cs) 17 184 Try.underlying35 hji0 hy0 hy1 hy2 rfl (.slice xa out.length xc) out.length (flatIm out) rfl O3a.out ⟨wr.heap.size, 0, none⟩ 1 nw.cs.toList rfl rfl ?qf2 ?qf3 ?qf4 (by omega) ?qf5 ?qf6 ?_))
          case qf2 =>
            intro q x hx
            rw [Addr.add_lit, Nat.zero_add]
            refine Eq.trans ((Bk.new wr 59 nw.cs).cell q) ?_
            simpa using hx
          case qf3 => simp [Im.cs, Pg.cs, Value.oneCell']
          case qf4 => have := OL.out; unfold maxLen; omega
          case qf5 => have := OL.out; omega
          case qf6 => have := SZ.out; simp; omega
          intro v3 w3 hown hgrow
          obtain ⟨ya3, yc3, hye⟩ := ow_slice hown
          subst hye
          have O3 := Lib.hid (show IOwn w3 (w.heap.size + 1) (.slice ya3 (out.length + 1) yc3) (out ++ [nw]) by
            unfold IOwn
            rw [flatIm_app, List.length_append, List.length_singleton]
            exact hown)
          have Z3 := Lib.hid (show Bk w3 G 42 p.cs from (Z2.out.alloc (.cells nw.cs 59)).grown hgrow (fun e => by have := (ow_blk O3a.out e.symm).1; have := GL.out; omega))
          have W3 := Lib.hid (bl_grow (W0.out.alloc W0.out.size (.cells nw.cs 59)) hgrow (fun j hj => by have := (ow_blk O3a.out hj).1; omega) (by have := W0.out.size; simp; omega))
          have SZ3 := Lib.hid (show w.heap.size + 1 ≤ w3.heap.size by have h1 := hgrow.size; have h2 := SZ.out; simp at h1; omega)
          clear hown hgrow
          clear c1
          have RS1 := Lib.hid (FIN.out w3 _ W3.out (by rw [← E.out]; exact ow_mono O3.out (by omega)))
          have H3 := Lib.hid (H.out.kept W3.out)
          have c3 : w3.cell? ⟨t, 1, none⟩ = some (.slice va l.length vc) := H3.out.box.cell 1
          have f3 := H3.out.box.fz 1
          go_wp2_with fail
          go_ret
          refine ⟨rfl, _, RS1.out, ?_⟩
          exact only_trans (only_below W3.out (some t)) ⟨rfl, rfl, rfl, by simp [World.setCell], fun q _ hq => Below.heap_setCell w3 ⟨t, 1, none⟩ _ q (fun e => hq (by rw [e]))⟩
end Go.Proofs.Ythapmkgcaghadaa
