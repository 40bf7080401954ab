/- The shelf's Apply. The shelf's Apply of no images at all. -/
import Derived.Test.YtelbioooggnbiaaGreatStgNew
import Derived.Test.YtelbioooggnbiaaGreatStgPure
import Derived.Test.YtelbioooggnbiaaGreatPgWalk
set_option linter.unusedVariables false
set_option linter.unusedSimpArgs false
namespace Go.Proofs.YtelbioooggnbiaaGreat
open Go.RowKit

section
variable {ops : Array Oper} {rest : List Oper} {o : Oper} {a : Act} {w : World}
theorem still_im_page {Q : Act → Prop} (hgd : o.guard = none) (x : Operand) (ho : o.op = .load 38 x) (g : Nat) (i : Im) (hx : a.eval x = .pointer (some ⟨g, 1, none⟩)) (hb : Bk w g 65 i.cs)
    (h : wpStill Tryz.prog ops w Q rest (a.put o.dst (.agg i.p.cs))) : wpStill Tryz.prog ops w Q (o :: rest) a := by
  refine wpStill_step fun K hK => ?_
  have hw : Region.wanted o (yielded ops a.tmps) = true := by simp [Region.wanted, hgd]
  rw [if_pos hw]
  unfold Oper.still execOp
  simp only [ho, hx, Instr.loadAt, Instr.sureAddr, Sem.run_bind, Sem.run_pure, Result.andThen_ok, run_loadVar_mid w g 1 38 i.p.cs.toList _ (im_page hb) Tryz.underlying38 rfl (by rw [pg_len]; kernel_rfl), Array.toArray_toList]
  exact ⟨rfl, hK _ h⟩
theorem load_im_page_if {Q : Exit → Act → World → Prop} (x : Operand) (ho : o.op = .load 38 x) (hw : Region.wanted o (yielded ops a.tmps) = true) (g : Nat) (i : Im) (hx : a.eval x = .pointer (some ⟨g, 1, none⟩)) (hb : Bk w g 65 i.cs)
    (h : wpList Tryz.prog ops Q rest (a.put o.dst (.agg i.p.cs)) w) : wpList Tryz.prog ops Q (o :: rest) a w := by
  refine wpList_step fun K hK => ?_
  rw [if_pos hw]
  refine wp_load_mid 38 x ho g 1 hx i.p.cs.toList _ (im_page hb) Tryz.underlying38 rfl (by rw [pg_len]; kernel_rfl) ?_
  simpa using hK _ _ h
end
/-- An image that a shelf of n pages takes. -/
def Im.fits (n : Nat) (i : Im) : Prop := hasId n i.id ∧ i.p.ok
def putAll (ps : List Pg) (l : List Im) : List Pg := l.foldl (fun q i => q.set i.id.toNat i.p) ps
theorem putAll_len : ∀ (l : List Im) (ps : List Pg), (putAll ps l).length = ps.length
  | [], ps => rfl
  | i :: l, ps => by
    show (putAll (ps.set i.id.toNat i.p) l).length = _
    rw [putAll_len l, List.length_set]
def ApPost (w : World) (B g r : Nat) (ps : List Pg) (l : List Im) (e : Ending) (w' : World) : Prop :=
  (e = .returned (.int .i64 1) ∧ ¬ (∀ i ∈ l, i.fits ps.length) ∧ Below w.heap.size w w') ∨
  (e = .returned (.int .i64 0) ∧ (∀ i ∈ l, i.fits ps.length) ∧ Sh w' B g r (putAll ps l) ∧ w.grownBy w' (some r))
theorem IRow.of_block {w w' : World} {g : Nat} {l : List Im} (h : IRow w g l) (hs : w.heap.size ≤ w'.heap.size) (hb : w'.heap[g]? = w.heap[g]?) : IRow w' g l :=
  ⟨Nat.lt_of_lt_of_le h.lt hs, fun i p hi j v hv => (World.cell?_of_block (w := w) hb).trans (h.cells i p hi j v hv)⟩
set_option maxRecDepth 100000 in
set_option maxHeartbeats 4000000 in
theorem apply_any {w : World} {B g r : Nat} {ps : List Pg} (h : Sh w B g r ps) (b c : Nat) (l : List Im) (hl : IRow w b l) (hbr : b ≠ r) (hn : l.length ≤ maxLen) :
    Calls Tryz.prog 8 #[.pointer (some ⟨g, 0, none⟩), .slice (some ⟨b, 0, none⟩) l.length c] w (ApPost w B g r ps l) := by
  have H := Lib.hid h; have L := Lib.hid hl
  have BAD := Lib.hid (fun (w' : World) (j : Nat) (m : Im) (hm : l[j]? = some m) (hf : ¬ m.fits ps.length) (hb : Below w.heap.size w w') => show ApPost w B g r ps l (.returned (.int .i64 1)) w' from .inl ⟨rfl, fun ha => hf (ha m (List.mem_of_getElem? hm)), hb⟩)
  clear h hl
  unfold maxLen at hn
  go_enter Tryz.func8, Tryz.ntmps8
  go_wp2_with fail
  go_loopw [13] (fun i wr => ∃ j : Nat, j ≤ l.length ∧ i = .int .i64 j ∧ (∀ m ∈ l.take j, m.fits ps.length) ∧ Below w.heap.size w wr) (fun i _ => l.length - (RowKit.intOf i).toNat)
  case atStart => exact ⟨0, Nat.zero_le _, rfl, by simp, Below.refl _ _⟩
  case round =>
    obtain ⟨j, hj, rfl, hall, hb⟩ := hrel
    have HB := Lib.hid hb; have ALL := Lib.hid hall
    clear hb hall
    by_cases hlt : j < l.length
    · obtain ⟨m, hm⟩ : ∃ m, l[j]? = some m := ⟨_, List.getElem?_eq_getElem hlt⟩
      have HLT := Lib.hid hlt
      have STEP := Lib.hid (fun (h : m.fits ps.length) => show ∀ q ∈ l.take (j + 1), q.fits ps.length by
        intro q hq
        rw [List.take_add_one, hm] at hq
        rcases List.mem_append.1 hq with h1 | h1
        · exact ALL.out q h1
        · simp at h1; rw [h1]; exact h)
      have BD := Lib.hid (fun w' => BAD.out w' j m hm)
      have L1 := Lib.hid (L.out.kept HB.out)
      have LM := Lib.hid hm
      have H1 := Lib.hid (H.out.kept (HB.out.alloc HB.out.size (.cells m.cs 65)))
      have B1 := Lib.hid (HB.out.alloc HB.out.size (.cells m.cs 65))
      have K1 := Lib.hid (Bk.new wr 65 m.cs)
      have CH := Lib.hid (has_any H1.out m.id)
      have CK := Lib.hid (fun w => check_any m.p w)
      unfold Pg.v at CK
      clear ALL hm
      by_cases hid : hasId ps.length m.id
      · rw [decide_eq_true hid] at CH
        go_wp2_with (first
          | (refine load_im_at rfl _ rfl b l j m LM.out rfl L1.out ?_)
          | (refine store_im_new rfl _ _ rfl m rfl rfl ?_; have x0 := im_id K1.out; generalize wr.alloc (.cells m.cs 65) = w3 at *))
        refine CH.out.mono ?_
        rintro e w4 ⟨rfl, rfl⟩
        go_wp2_with (refine load_im_page_if _ rfl (by first | rfl | kernel_rfl) wr.heap.size m rfl K1.out ?_)
        refine (CK.out _).mono ?_
        rintro e w5 ⟨rfl, hb5⟩
        have B5 := Lib.hid (below_then B1.out hb5 B1.out.size)
        clear hb5 x0
        by_cases hok : m.p.ok
        · have ST := Lib.hid (STEP.out ⟨hid, hok⟩)
          rw [Pg.err_ok hok]
          clear hok STEP BD hid
          go_wp2
          go_roundw
          case rel => have hx := HLT.out; exact ⟨j + 1, hx, by go_num, ST.out, B5.out⟩
          case measure => have := HLT.out; simp [RowKit.intOf]; omega
        · have BD := Lib.hid (fun w' => BD.out w' (fun h => hok h.2))
          rw [Pg.err_no hok]
          clear hok STEP hid
          go_wp2
          go_ret
          exact BD.out _ B5.out
      · have BD := Lib.hid (fun w' => BD.out w' (fun h => hid h.1))
        rw [decide_eq_false hid] at CH
        clear hid STEP
        go_wp2_with (first
          | (refine load_im_at rfl _ rfl b l j m LM.out rfl L1.out ?_)
          | (refine store_im_new rfl _ _ rfl m rfl rfl ?_; have x0 := im_id K1.out; generalize wr.alloc (.cells m.cs 65) = w3 at *))
        refine CH.out.mono ?_
        rintro e w4 ⟨rfl, rfl⟩
        go_wp2
        go_ret
        exact BD.out _ B1.out
    · have hjn : j = l.length := by omega
      subst hjn
      have ALL := Lib.hid (show ∀ m ∈ l, m.fits ps.length by have := ALL.out; rwa [List.take_length] at this)
      have H1 := Lib.hid (H.out.kept HB.out)
      have L1 := Lib.hid (L.out.kept HB.out)
      have G1 := Lib.hid (only_below HB.out (some r))
      have TOP := Lib.hid (L.out.lt)
      have RB := Lib.hid (H.out.row.lt)
      clear BAD hlt hj
      go_wp2_with fail
      go_loopw [31] (fun i wr => ∃ j : Nat, j ≤ l.length ∧ i = .int .i64 j ∧ Sh wr B g r (putAll ps (l.take j)) ∧ w.grownBy wr (some r)) (fun i _ => l.length - (RowKit.intOf i).toNat)
      case atStart => exact ⟨0, Nat.zero_le _, rfl, H1.out, G1.out⟩
      case round =>
        obtain ⟨j, hj, rfl, hs, hg⟩ := hrel
        have HS := Lib.hid hs; have HG := Lib.hid hg
        clear hs hg H1 L1 G1 HB
        by_cases hlt : j < l.length
        · obtain ⟨m, hm⟩ : ∃ m, l[j]? = some m := ⟨_, List.getElem?_eq_getElem hlt⟩
          have HLT := Lib.hid hlt
          have FIT := Lib.hid (ALL.out m (List.mem_of_getElem? hm))
          have STEP := Lib.hid (show putAll ps (l.take (j + 1)) = (putAll ps (l.take j)).set m.id.toNat m.p by
            unfold putAll
            rw [List.take_add_one, hm, List.foldl_append]
            rfl)
          have LX := Lib.hid (IRow.of_block L.out HG.out.size (HG.out.block b TOP.out (fun e => hbr (by injection e))))
          have LM := Lib.hid hm
          obtain ⟨k, hk⟩ : ∃ k : Nat, m.id = k := ⟨m.id.toNat, by have := FIT.out.1.1; omega⟩
          have KL := Lib.hid (show k < (putAll ps (l.take j)).length by rw [putAll_len]; have := FIT.out.1.2; omega)
          have HK := Lib.hid hk
          have H2 := Lib.hid (HS.out.kept ((Below.refl wr.heap.size wr).alloc (Nat.le_refl _) (.cells m.cs 65)))
          have G2 := Lib.hid (only_alloc HG.out (.cells m.cs 65))
          have K2 := Lib.hid (Bk.new wr 65 m.cs)
          have hkl := KL.out
          have hpl : (putAll ps (l.take j)).length = ps.length := putAll_len _ _
          have hm16 := H.out.most
          have c0 : (wr.alloc (.cells m.cs 65)).cell? ⟨g, 0, none⟩ = some (.slice (some ⟨r, 0, none⟩) ps.length ps.length) := by have := H2.out.box.cell 0; rw [hpl] at this; exact this
          have x0 : (wr.alloc (.cells m.cs 65)).cell? ⟨wr.heap.size, 0, none⟩ = some (.int .i64 k) := by have := im_id K2.out; rwa [hk] at this
          have hkp : (k : Int) < (ps.length : Int) := by omega
          clear hk
          go_upto_region 12 with (first
            | (refine load_im_at rfl _ rfl b l j m LM.out rfl LX.out ?_)
            | (refine store_im_new rfl _ _ rfl m rfl rfl ?_; generalize wr.alloc (.cells m.cs 65) = w3 at *))
          refine wp_region_still_tail 9 (by kernel_rfl) (by kernel_rfl) ?_
          simp only [List.take_succ_cons, List.take_zero, List.drop_succ_cons, List.drop_zero]
          still_step
          still_step
          still_step
          still_step
          still_step
          still_step
          still_step
          refine still_im_page rfl _ rfl wr.heap.size m rfl K2.out.drew ?_
          still_step
          refine wpStill_nil ?_
          change wpList _ _ _ _ _ w3.drew
          have HD := Lib.hid (only_drew G2.out)
          have GR := Lib.hid (show g ≠ r from Bk.ne_ H2.out.box H2.out.row (by decide))
          have HR := Lib.hid (show PRow w3.drew r (putAll ps (l.take j)) from Bk.drew H2.out.row)
          refine (store_page_at rfl _ _ rfl r (putAll ps (l.take j)) k m.p KL.out rfl rfl HR.out ?_)
          intro hr3
          have HN := Lib.hid (show Sh (w3.drew.setCells r (k * 16) m.p.cs.toList) B g r (putAll ps (l.take (j + 1))) by
            rw [STEP.out, HK.out, Int.toNat_natCast]
            have hlen : ((putAll ps (l.take j)).set k m.p).length = (putAll ps (l.take j)).length := List.length_set
            refine ⟨?_, hr3, by rw [hlen]; exact H2.out.one, by rw [hlen]; exact H2.out.most, H2.out.bg, H2.out.br⟩
            rw [hlen]
            exact (setCells_other r g _ w3.drew _ GR.out).trans H2.out.box)
          have GN := Lib.hid (only_trans HD.out (setCells_only w3.drew r (k * 16) m.p.cs.toList))
          clear hr3 c0 x0
          go_wp2
          go_roundw
          case rel => have hx := HLT.out; exact ⟨j + 1, hx, by go_num, HN.out, GN.out⟩
          case measure => have := HLT.out; simp [RowKit.intOf]; omega
        · have hjn : j = l.length := by omega
          subst hjn
          have HS := Lib.hid (show Sh wr B g r (putAll ps l) by have := HS.out; rwa [List.take_length] at this)
          clear hlt hj
          go_wp2
          go_ret
          exact .inr ⟨rfl, ALL.out, HS.out, HG.out⟩
end Go.Proofs.YtelbioooggnbiaaGreat
namespace Go.Proofs.YtelbioooggnbiaaGreat
open Go.RowKit
set_option maxRecDepth 100000 in
set_option maxHeartbeats 2000000 in
theorem apply_nil {w : World} {B g r : Nat} {ps : List Pg} (h : Sh w B g r ps) :
    Calls Tryz.prog 8 #[.pointer (some ⟨g, 0, none⟩), .slice none 0 0] w fun e w' => e = .returned (.int .i64 0) ∧ w' = w := by
  clear h
  go_enter Tryz.func8, Tryz.ntmps8
  go_wp2_with fail
  go_loopw [13] (fun i wr => i = .int .i64 0 ∧ wr = w) (fun i _ => 0)
  case atStart => exact ⟨rfl, rfl⟩
  case round =>
    obtain ⟨rfl, hw⟩ := hrel
    subst hw
    go_wp2_with fail
    go_loopw [31] (fun i wx => i = .int .i64 0 ∧ wx = wr) (fun i _ => 0)
    case atStart => exact ⟨rfl, rfl⟩
    case round =>
      obtain ⟨rfl, rfl⟩ := hrel
      go_wp2
      go_ret
      exact ⟨rfl, rfl⟩
end Go.Proofs.YtelbioooggnbiaaGreat
