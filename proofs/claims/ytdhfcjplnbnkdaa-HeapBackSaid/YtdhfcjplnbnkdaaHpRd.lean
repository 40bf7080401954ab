/- Read; a cell of a page is another one. Update, Delete. Delete. Restore. -/
import Derived.Test.YtdhfcjplnbnkdaaHpSeek
import Derived.StillTail
import Derived.StillTailTactics
set_option linter.unusedVariables false
set_option linter.unusedSimpArgs false
namespace Go.Proofs.Ytdhfcjplnbnkdaa
open Go.RowKit Go.Maps

def ReadPost (w : World) (L : Nat → Nat → Ce) (id : Int) (e : Ending) (w' : World) : Prop :=
  ((rcP L id ∧ e = .returned (.tuple #[.string (L (id.toNat / 8) (id.toNat % 8)).d, .int .i64 0])) ∨ (¬ rcP L id ∧ e = .returned (.tuple #[.string ⟨#[]⟩, .int .i64 150]))) ∧ Below w.heap.size w w'
set_option maxRecDepth 100000 in
set_option maxHeartbeats 4000000 in
theorem read_any {w : World} {B g b gs r N M n : Nat} {und pg : Nat → Pg} {ch : List Nat} {L : Nat → Nat → Ce} (h : SV w B g b gs r N M und pg) (hn : n ≤ N) (hc : Hc pg n ch L) (id : Int) (hid : -9223372036854775808 ≤ id ∧ id ≤ 9223372036854775807) :
    Calls Try.prog 15 #[.pointer (some ⟨g, 0, none⟩), .int .i64 1, .int .i64 id] w (ReadPost w L id) := by
  have CS := Lib.hid (seek_any h hn hc id hid)
  have HC := Lib.hid hc
  have NO := Lib.hid (fun (w' : World) (hx : ¬ rcP L id) (hb : Below w.heap.size w w') => show ReadPost w L id (.returned (.tuple #[.string ⟨#[]⟩, .int .i64 150])) w' from ⟨.inr ⟨hx, rfl⟩, hb⟩)
  have YES := Lib.hid (fun (w' : World) (p s : Nat) (h1 : s < 6) (h2 : id = (p : Int) * 8 + (s : Int)) (h4 : (L p s).st = 1) (d : ByteArray) (hd : d = (L p s).d) (hb : Below w.heap.size w w') => show ReadPost w L id (.returned (.tuple #[.string d, .int .i64 0])) w' from
    ⟨.inl ⟨by rw [h2]; exact (rcP_nat L p s h1).2 h4, by rw [hd, h2, show ((p : Int) * 8 + (s : Int)).toNat / 8 = p by omega, show ((p : Int) * 8 + (s : Int)).toNat % 8 = s by omega]⟩, hb⟩)
  clear h hn hc hid
  go_enter Try.func15, Try.ntmps15
  go_wp2_with fail
  refine CS.out.mono ?_
  rintro e w1 ⟨⟨p, s, h1, h2, h3, h4, rfl⟩ | ⟨hx, rfl⟩, hb⟩
  · have hbb := hb.alloc hb.size (.cells (pg p).cs 40)
    have B1 := Lib.hid hbb
    have Y := Lib.hid (YES.out · p s h1 h2 h4)
    have LC := Lib.hid (HC.out.cell h3 h1)
    have K1 := Lib.hid (Bk.new w1 40 (pg p).cs)
    have H6 := Lib.hid h1
    obtain ⟨d, hd⟩ : ∃ d, d = (L p s).d := ⟨_, rfl⟩
    have HD := Lib.hid hd
    obtain ⟨G, hG⟩ : ∃ G, G = w1.heap.size := ⟨_, rfl⟩
    rw [← hG] at K1
    have x0 : (w1.alloc (.cells (pg p).cs 40)).cell? ⟨G, 4 + s * 2 + 1, none⟩ = some (.string d) := by
      rw [K1.out.cell, hd, ← LC.out]; rcases six h1 with h | h | h | h | h | h <;> rw [h] <;> rfl
    have s6 : (s : Int) < 6 := by omega
    clear h2 h3 h4 hb hbb CS YES NO HC LC hd
    generalize pg p = pp at *
    dsimp only
    go_upto_region 2 with (refine store_page_new rfl _ _ rfl pp rfl rfl ?_; rw [← hG]; clear hG; generalize w1.alloc (.cells pp.cs 40) = w2 at *)
    go_wp2
    refine bodyPost_ret (v := .tuple #[.string d, .int .i64 0]) (by simp [results, Try.results15, go_sem]) rfl ?_
    exact Y.out _ d HD.out B1.out
  · have hbb := hb.alloc hb.size (.cells Pg.zero.cs 40)
    have B1 := Lib.hid hbb
    have NX := Lib.hid hx
    clear hb hbb hx CS YES HC
    dsimp only
    go_upto_region 2 with (refine store_page_new rfl _ _ rfl Pg.zero rfl rfl ?_; generalize w1.alloc (.cells Pg.zero.cs 40) = w2 at *)
    go_wp2
    refine bodyPost_ret (v := .tuple #[.string ⟨#[]⟩, .int .i64 150]) (by simp [results, Try.results15, go_sem]) rfl ?_
    exact NO.out _ NX.out B1.out
theorem only_setRow {a w : World} {row : Option Nat} (h : a.grownBy w row) {g : Nat} (hp : a.heap.size ≤ g) (cs : Array Value) : a.grownBy (w.setRow g cs) row :=
  ⟨h.os, h.tape, h.output, by have := h.size; simpa [World.setRow] using this, fun k hk hne => (setRow_other w g k cs (fun e => by omega)).trans (h.block k hk hne)⟩
theorem only_row (w : World) (g : Nat) (cs : Array Value) : w.grownBy (w.setRow g cs) (some g) :=
  ⟨rfl, rfl, rfl, by simp [World.setRow], fun k hk hne => setRow_other w g k cs (fun e => hne (by rw [e]))⟩
theorem only_setCells {a w : World} {row : Option Nat} (h : a.grownBy w row) {g : Nat} (hp : a.heap.size ≤ g) (o : Nat) (l : List Value) : a.grownBy (w.setCells g o l) row := by
  have h2 := setCells_only w g o l
  exact ⟨h2.os.trans h.os, h2.tape.trans h.tape, h2.output.trans h.output, Nat.le_trans h.size h2.size, fun k hk hne => (h2.block k (Nat.lt_of_lt_of_le hk h.size) (fun e => by injection e with e; omega)).trans (h.block k hk hne)⟩
section
variable {ops : Array Oper} {rest : List Oper} {o : Oper} {a : Act} {w : World} {Q : Exit → Act → World → Prop}
theorem load_ce (hgd : o.guard = none) (x : Operand) (ho : o.op = .load 37 x) (g : Nat) (st : Int) (d : ByteArray) (hx : a.eval x = .pointer (some ⟨g, 0, none⟩)) (hb : Bk w g 37 #[.int .i64 st, .string d]) (h : wpList Try.prog ops Q rest (a.put o.dst (.agg #[.int .i64 st, .string d])) w) : wpList Try.prog ops Q (o :: rest) a w :=
  wpList_load_row hgd 37 x ho g hx 37 #[.int .i64 st, .string d] (0, 0) _ hb Try.underlying37 rfl (by show _ = some 2; kernel_rfl) h
end
set_option maxRecDepth 100000 in
set_option maxHeartbeats 8000000 in
theorem change_any {w : World} {B g b gs r N M : Nat} {und pg : Nat → Pg} (h : SV w B g b gs r N M und pg) (id : Nat) (hid : id < N) (s : Nat) (hs : s < 6) (p : Pg) (hp : p.ok) (c : Ce) (hc : c.ok) (hM : M < maxLen) :
    Calls Try.prog 37 #[.pointer (some ⟨g, 0, none⟩), .int .i64 id, .int .i64 s, .agg p.cs, .agg #[.int .i64 c.st, .string c.d]] w fun e w' =>
      e = .returned (.tuple #[.agg (udC id s (p.c s)).cs, .int .i64 0]) ∧ SV w' B g b gs r N (M + 1) und (upd pg id (putC p s c)) ∧ w.grownBy w' (some b) := by
  have HV := Lib.hid h
  have NEG := Lib.hid h.gs_ne
  have CS := Lib.hid (fun (w' : World) (hs : SV w' B g b gs r N M und pg) => sv_set hs id hid (putC p s c) (putC_ok2 hp s c hc) hM)
  have H6 := Lib.hid hs
  have s6 : (s : Int) < 6 := by omega
  clear h hid hp hc hM
  go_enter Try.func37, Try.ntmps37
  go_upto_region 1 with fail
  change Code.wp _ _ _ _ (((w.alloc (.cells p.cs 40)).alloc (.cells #[.int .i64 c.st, .string c.d] 37)).alloc (.cells ud0.cs 45))
  have KP := Lib.hid (((Bk.new w 40 p.cs).alloc (.cells #[.int .i64 c.st, .string c.d] 37)).alloc (.cells ud0.cs 45))
  have KC := Lib.hid ((Bk.new2 w (.cells p.cs 40) 37 #[.int .i64 c.st, .string c.d]).alloc (.cells ud0.cs 45))
  have KU := Lib.hid (Bk.new3 w (.cells p.cs 40) (.cells #[.int .i64 c.st, .string c.d] 37) 45 ud0.cs)
  have V1 := Lib.hid (((HV.out.alloc (.cells p.cs 40)).alloc (.cells #[.int .i64 c.st, .string c.d] 37)).alloc (.cells ud0.cs 45))
  have G1 := Lib.hid (only_alloc (only_alloc (World.grownBy_alloc w (.cells p.cs 40) (some b)) (.cells #[.int .i64 c.st, .string c.d] 37)) (.cells ud0.cs 45))
  obtain ⟨w1, hw1⟩ : ∃ w1, w1 = (((w.alloc (.cells p.cs 40)).alloc (.cells #[.int .i64 c.st, .string c.d] 37)).alloc (.cells ud0.cs 45)) := ⟨_, rfl⟩
  rw [← hw1] at KP KC KU V1 G1 ⊢
  clear hw1
  obtain ⟨U, hU⟩ : ∃ U, U = w.heap.size + 1 + 1 := ⟨_, rfl⟩
  rw [← hU] at KU ⊢
  obtain ⟨C, hC⟩ : ∃ C, C = w.heap.size + 1 := ⟨_, rfl⟩
  rw [← hC] at KC ⊢
  obtain ⟨P, hP⟩ : ∃ P, P = w.heap.size := ⟨_, rfl⟩
  rw [← hP] at KP ⊢
  have SZ := Lib.hid (show P = w.heap.size ∧ C = w.heap.size + 1 ∧ U = w.heap.size + 1 + 1 from ⟨hP, hC, hU⟩)
  clear hU hC hP HV
  obtain ⟨V, hVV⟩ : ∃ V, V = w1.heap.size := ⟨_, rfl⟩
  have KV := Lib.hid (Bk.new w1 45 (udC id s (p.c s)).cs)
  have KP2 := Lib.hid (KP.out.alloc (.cells (udC id s (p.c s)).cs 45))
  have KC2 := Lib.hid (KC.out.alloc (.cells (udC id s (p.c s)).cs 45))
  have KU2 := Lib.hid (KU.out.alloc (.cells (udC id s (p.c s)).cs 45))
  have V2 := Lib.hid (V1.out.alloc (.cells (udC id s (p.c s)).cs 45))
  have G2 := Lib.hid (only_alloc G1.out (.cells (udC id s (p.c s)).cs 45))
  have VZ := Lib.hid (show w.heap.size ≤ V ∧ U < V ∧ P < V by have := KU.out.lt; have := SZ.out; have := G1.out.size; omega)
  rw [← hVV] at KV
  as_aux_lemma =>
    go_upto_region 2 with (first | (refine load_cell_at rfl _ rfl P p s H6.out rfl KP.out ?_) | (refine build_udC rfl _ _ _ rfl id s (p.c s) rfl rfl rfl ?_) | (refine store_ud_new rfl _ _ rfl (udC id s (p.c s)) rfl rfl ?_; rw [← hVV]; clear hVV; generalize w1.alloc (.cells (udC id s (p.c s)).cs 45) = w2 at *))
    clear KP KC KU V1 G1
    have KP3 := Lib.hid (putRow p s H6.out c.st c.d KP2.out)
    have KU3 := Lib.hid (show Bk (w2.setCells P (4 + s * 2) [.int .i64 c.st, .string c.d]) U 45 ud0.cs from KU2.out.grown (setCells_only w2 P (4 + s * 2) _) (fun e => by have := SZ.out; injection e with e; omega))
    have KV3 := Lib.hid (show Bk (w2.setCells P (4 + s * 2) [.int .i64 c.st, .string c.d]) V 45 (udC id s (p.c s)).cs from KV.out.grown (setCells_only w2 P (4 + s * 2) _) (fun e => by have := VZ.out; injection e with e; omega))
    have V3 := Lib.hid (V2.out.grown (setCells_only w2 P (4 + s * 2) [.int .i64 c.st, .string c.d]) (fun k hk => by cases hk; have := SZ.out; have := NEG.out; omega))
    have G3 := Lib.hid (only_setCells G2.out (show w.heap.size ≤ P by have := SZ.out; omega) (4 + s * 2) [.int .i64 c.st, .string c.d])
    as_aux_lemma =>
      go_upto_region 3 with (first | (refine load_ce rfl _ rfl C c.st c.d rfl KC2.out ?_) | (refine store_cell_at rfl _ _ rfl P p s H6.out c.st c.d rfl rfl KP2.out ?_; generalize w2.setCells P (4 + s * 2) [.int .i64 c.st, .string c.d] = w3 at *))
      clear KP2 KC2 KU2 V2 G2 KV
      have CS2 := Lib.hid (CS.out w3 V3.out)
      as_aux_lemma =>
        go_wp2_with (refine load_page rfl _ rfl P (putC p s c) rfl KP3.out ?_)
        refine CS2.out.mono ?_
        rintro e w4 ⟨rfl, hsv, hg⟩
        have V4 := Lib.hid hsv
        have G4 := Lib.hid (only_trans G3.out hg)
        have KU4 := Lib.hid (KU3.out.grown hg (fun e => by have := SZ.out; have := NEG.out; injection e with e; omega))
        have KV4 := Lib.hid (KV3.out.grown hg (fun e => by have := VZ.out; have := NEG.out; injection e with e; omega))
        have V5 := Lib.hid (show SV (w4.setRow U (udC id s (p.c s)).cs) B g b gs r N (M + 1) und (upd pg id (putC p s c)) from V4.out.grown (row := some U) (only_row w4 U _) (fun k hk => by cases hk; have := SZ.out; have := NEG.out; omega))
        have G5 := Lib.hid (only_setRow G4.out (show w.heap.size ≤ U by have := SZ.out; omega) (udC id s (p.c s)).cs)
        have KU5 := Lib.hid (ud_bk (p := udC id s (p.c s)) KU4.out)
        clear hsv hg KP3 KU3 KV3 V3 G3 CS CS2
        as_aux_lemma =>
          go_wp2_with (first | (refine load_ud rfl _ rfl V (udC id s (p.c s)) rfl KV4.out ?_) | (refine store_ud rfl _ _ rfl U (udC id s (p.c s)) ud0 rfl rfl KU4.out ?_; generalize w4.setRow U (udC id s (p.c s)).cs = w5 at *))
          refine bodyPost_ret (ud_ct rfl _ _ U (udC id s (p.c s)) KU5.out rfl) rfl ?_
          exact ⟨rfl, V5.out, G5.out⟩
end Go.Proofs.Ytdhfcjplnbnkdaa
namespace Go.Proofs.Ytdhfcjplnbnkdaa
open Go.RowKit Go.Maps

def ChPost (w : World) (B g b gs r N M n : Nat) (und : Nat → Pg) (ch : List Nat) (L : Nat → Nat → Ce) (id : Int) (new : Ce → Ce) (e : Ending) (w' : World) : Prop :=
  (¬ rcP L id ∧ e = .returned (.tuple #[.agg ud0.cs, .int .i64 150]) ∧ Below w.heap.size w w') ∨
  (∃ p s : Nat, s < 6 ∧ id = (p : Int) * 8 + (s : Int) ∧ p ∈ ch ∧ (L p s).st = 1 ∧ e = .returned (.tuple #[.agg (udC p s (L p s)).cs, .int .i64 0]) ∧ ∃ pg', SV w' B g b gs r N (M + 1) und pg' ∧ Hc pg' n ch (putL L p s (new (L p s))) ∧ w.grownBy w' (some b))
section
variable {ops : Array Oper} {rest : List Oper} {o : Oper} {a : Act} {w : World} {Q : Exit → Act → World → Prop}
theorem build_ce (hg : o.guard = none) (k : Int) (x : Operand) (ho : o.op = .build 37 #[(0, .const (.int .i64 k)), (1, x)]) (d : ByteArray) (hx : a.eval x = .string d) (h : wpList Try.prog ops Q rest (a.put o.dst (.agg #[.int .i64 k, .string d])) w) : wpList Try.prog ops Q (o :: rest) a w := by
  refine wpList_plain hg fun K' hK' => ?_
  have hb : (Instr.build 37 #[(0, .int .i64 k), (1, .string d)]).run Try.prog w = .ok (.agg #[.int .i64 k, .string d]) w := by kernel_rfl
  unfold Oper.wp execOp
  have hc : a.eval (.const (.int .i64 k)) = .int .i64 k := rfl
  simp only [ho, Sem.run_bind, Sem.run_pure, Result.andThen_ok, List.map_toArray, List.map_cons, List.map_nil, hc, hx, hb]
  exact hK' _ _ h
theorem still_build_ce {Q : Act → Prop} (hgd : o.guard = none) (k : Int) (x : Operand) (ho : o.op = .build 37 #[(0, .const (.int .i64 k)), (1, x)]) (d : ByteArray) (hx : a.eval x = .string d)
    (h : wpStill Try.prog ops w Q rest (a.put o.dst (.agg #[.int .i64 k, .string d]))) : wpStill Try.prog ops w Q (o :: rest) a := by
  refine wpStill_step fun K hK => ?_
  have hw : Region.wanted o (yielded ops a.tmps) = true := by simp [Region.wanted, hgd]
  rw [if_pos hw]
  have hb : (Instr.build 37 #[(0, .int .i64 k), (1, .string d)]).run Try.prog w = .ok (.agg #[.int .i64 k, .string d]) w := by kernel_rfl
  have hc : a.eval (.const (.int .i64 k)) = .int .i64 k := rfl
  unfold Oper.still execOp
  simp only [ho, Sem.run_bind, Sem.run_pure, Result.andThen_ok, List.map_toArray, List.map_cons, List.map_nil, hc, hx, hb]
  exact ⟨rfl, hK _ h⟩
end
theorem div8 {p s : Nat} (hs : s < 6) (h : (p : Int) * 8 + (s : Int) ≤ 9223372036854775807) : ((p : Int) * 8 + (s : Int)).tdiv 8 = (p : Int) ∧ wrap64 (p : Int) = (p : Int) := by
  rw [Int.tdiv_eq_ediv_of_nonneg (by omega)]
  exact ⟨by omega, by unfold wrap64; omega⟩
set_option maxRecDepth 100000 in
set_option maxHeartbeats 8000000 in
theorem update_any {w : World} {B g b gs r N M n : Nat} {und pg : Nat → Pg} {ch : List Nat} {L : Nat → Nat → Ce} (h : SV w B g b gs r N M und pg) (hn : n ≤ N) (hc : Hc pg n ch L) (hM : M < maxLen) (id : Int) (hid : -9223372036854775808 ≤ id ∧ id ≤ 9223372036854775807) (val : ByteArray) :
    Calls Try.prog 16 #[.pointer (some ⟨g, 0, none⟩), .int .i64 1, .int .i64 id, .string val] w fun e w' =>
      (32 < val.size ∧ e = .returned (.tuple #[.agg ud0.cs, .int .i64 2]) ∧ Below w.heap.size w w') ∨ (val.size ≤ 32 ∧ ChPost w B g b gs r N M n und ch L id (fun _ => ⟨1, val⟩) e w') := by
  have HC := Lib.hid hc; have HN := Lib.hid hn; have HM := Lib.hid hM; have HI := Lib.hid hid
  have NEG := Lib.hid h.gs_ne
  obtain ⟨R, hR⟩ : ∃ R, R = w.heap.size := ⟨_, rfl⟩
  have KR := Lib.hid (Bk.new w 45 ud0.cs)
  have V1 := Lib.hid (h.alloc (.cells ud0.cs 45))
  have G1 := Lib.hid (World.grownBy_alloc w (.cells ud0.cs 45) none)
  rw [← hR] at KR
  have SZ := Lib.hid hR
  clear h hc hn hM hid
  go_enter Try.func16, Try.ntmps16
  go_upto_region 1 with fail
  rw [← hR]
  change Code.wp _ _ _ _ (w.alloc (.cells ud0.cs 45))
  generalize w.alloc (.cells ud0.cs 45) = w1 at *
  clear hR
  by_cases hv : (32 : Int) < (val.size : Int)
  · have hvn : 32 < val.size := by omega
    have HV := Lib.hid hvn
    have KR2 := Lib.hid (ud_bk (p := ud0) KR.out)
    have B2 := Lib.hid (below_only (only_setRow G1.out (show w.heap.size ≤ R by have := SZ.out; omega) ud0.cs))
    go_wp2_with (first | (refine build_ud0 rfl rfl ?_) | (refine store_ud rfl _ _ rfl R ud0 ud0 rfl rfl KR.out ?_; generalize w1.setRow R ud0.cs = w2 at *))
    refine bodyPost_ret (ud_ct rfl _ _ R ud0 KR2.out rfl) rfl ?_
    exact .inl ⟨HV.out, rfl, B2.out⟩
  · have hvn : ¬ 32 < val.size := by omega
    have HV := Lib.hid (show val.size ≤ 32 by omega)
    have CS := Lib.hid (seek_any V1.out HN.out HC.out id HI.out)
    as_aux_lemma =>
      go_wp2_with fail
      refine CS.out.mono ?_
      rintro e w2 ⟨⟨p, s, h1, h2, h3, h4, rfl⟩ | ⟨hx, rfl⟩, hb⟩
      · have hbb := hb.alloc hb.size (.cells (pg p).cs 40)
        have G2 := Lib.hid (only_trans G1.out (only_below hbb none))
        have V2 := Lib.hid (V1.out.kept hbb)
        have KR2 := Lib.hid (KR.out.kept hbb)
        have KG := Lib.hid (Bk.new w2 40 (pg p).cs)
        obtain ⟨G, hG⟩ : ∃ G, G = w2.heap.size := ⟨_, rfl⟩
        rw [← hG] at KG
        have H4 := Lib.hid (show s < 6 ∧ p ∈ ch ∧ (L p s).st = 1 from ⟨h1, h3, h4⟩)
        obtain ⟨hd, hw⟩ := div8 (p := p) h1 (by have := HI.out; omega)
        have PM := HC.out.mem h3
        have PO := (HC.out.page _ (mem_getD h3).choose_spec.1).2.2.2.2.2
        rw [(mem_getD h3).choose_spec.2] at PO
        have CC := Lib.hid (fun (w' : World) (hs : SV w' B g b gs r N M und pg) => change_any hs p (by have := HN.out; omega) s h1 (pg p) PO ⟨1, val⟩ (.inr ⟨.inl rfl, by have := HV.out; show val.size ≤ 34; omega⟩) HM.out)
        subst h2
        clear hb hbb CS V1 G1 KR h1 h3 h4 PM PO hv hvn
        obtain ⟨pp, hpp⟩ : ∃ pp, pp = pg p := ⟨_, rfl⟩
        have HPP := Lib.hid hpp
        rw [← hpp] at KG V2 KR2 G2 CC ⊢
        clear hpp
        dsimp only
        as_aux_lemma =>
          go_upto_region 4 with (refine store_page_new rfl _ _ rfl pp rfl rfl ?_; rw [← hG]; clear hG; generalize w2.alloc (.cells pp.cs 40) = w3 at *)
          have CC2 := Lib.hid (CC.out w3 V2.out)
          go_wp2_with (first | (refine load_page rfl _ rfl G pp rfl KG.out ?_) | (refine build_ce rfl 1 _ rfl val rfl ?_))
          refine CC2.out.mono ?_
          rintro e w4 ⟨rfl, hsv, hg⟩
          have V4 := Lib.hid hsv
          have KR4 := Lib.hid (KR2.out.grown hg (fun e => by have := SZ.out; have := NEG.out; injection e with e; omega))
          have G4 := Lib.hid (only_trans (World.grownBy.but G2.out (some b)) hg)
          have V5 := Lib.hid (show SV (w4.setRow R (udC p s (pp.c s)).cs) B g b gs r N (M + 1) und (upd pg p (putC pp s ⟨1, val⟩)) from V4.out.grown (row := some R) (only_row w4 R _) (fun k hk => by cases hk; have := SZ.out; have := NEG.out; omega))
          have G5 := Lib.hid (only_setRow G4.out (show w.heap.size ≤ R by have := SZ.out; omega) (udC p s (pp.c s)).cs)
          have KR5 := Lib.hid (ud_bk (p := udC p s (pp.c s)) KR4.out)
          clear hsv hg V4 G4 CC CC2 V2 G2 KR2 KG
          as_aux_lemma =>
            go_wp2_with (refine store_ud rfl _ _ rfl R (udC p s (pp.c s)) ud0 rfl rfl KR4.out ?_; generalize w4.setRow R (udC p s (pp.c s)).cs = w5 at *)
            refine bodyPost_ret (ud_ct rfl _ _ R (udC p s (pp.c s)) KR5.out rfl) rfl ?_
            refine .inr ⟨HV.out, .inr ⟨p, s, H4.out.1, rfl, H4.out.2.1, H4.out.2.2, ?_, _, V5.out, ?_, G5.out⟩⟩
            · rw [HPP.out, HC.out.cell H4.out.2.1 H4.out.1]; rfl
            · rw [HPP.out]
              exact HC.out.lay H4.out.2.1 H4.out.1 _ (.inr ⟨.inl rfl, by have := HV.out; show val.size ≤ 34; omega⟩)
      · have hbb := hb.alloc hb.size (.cells Pg.zero.cs 40)
        have G2 := Lib.hid (only_trans G1.out (only_below hbb none))
        have KR2 := Lib.hid (KR.out.kept hbb)
        have KR3 := Lib.hid (ud_bk (p := ud0) KR2.out)
        have B3 := Lib.hid (below_only (only_setRow G2.out (show w.heap.size ≤ R by have := SZ.out; omega) ud0.cs))
        have NX := Lib.hid hx
        clear hb hbb CS V1 G1 KR hv hvn hx
        dsimp only
        as_aux_lemma =>
          go_upto_region 4 with (refine store_page_new rfl _ _ rfl Pg.zero rfl rfl ?_; generalize w2.alloc (.cells Pg.zero.cs 40) = w3 at *)
          go_wp2_with (first | (refine build_ud0 rfl rfl ?_) | (refine store_ud rfl _ _ rfl R ud0 ud0 rfl rfl KR2.out ?_; generalize w3.setRow R ud0.cs = w4 at *))
          refine bodyPost_ret (ud_ct rfl _ _ R ud0 KR3.out rfl) rfl ?_
          exact .inr ⟨HV.out, .inl ⟨NX.out, rfl, B3.out⟩⟩
end Go.Proofs.Ytdhfcjplnbnkdaa
namespace Go.Proofs.Ytdhfcjplnbnkdaa
open Go.RowKit Go.Maps

theorem SV.drew {w : World} {B g b gs r N M : Nat} {und pg : Nat → Pg} (h : SV w B g b gs r N M und pg) : SV w.drew B g b gs r N M und pg := h.kept ⟨rfl, rfl, rfl, Nat.le_refl _, fun _ _ => rfl⟩
theorem ce_ghost {c : Ce} (h : c.ok) : (⟨2, c.d⟩ : Ce).ok := by
  rcases h with ⟨h1, h2⟩ | ⟨h1, h2⟩
  · exact .inr ⟨.inr rfl, by show c.d.size ≤ 34; rw [h2]; decide⟩
  · exact .inr ⟨.inr rfl, h2⟩
set_option maxRecDepth 100000 in
set_option maxHeartbeats 8000000 in
theorem delete_any {w : World} {B g b gs r N M n : Nat} {und pg : Nat → Pg} {ch : List Nat} {L : Nat → Nat → Ce} (h : SV w B g b gs r N M und pg) (hn : n ≤ N) (hc : Hc pg n ch L) (hM : M < maxLen) (id : Int) (hid : -9223372036854775808 ≤ id ∧ id ≤ 9223372036854775807) :
    Calls Try.prog 17 #[.pointer (some ⟨g, 0, none⟩), .int .i64 1, .int .i64 id] w fun e w' =>
      ChPost w B g b gs r N M n und ch L id (fun c => ⟨2, c.d⟩) e w' := by
  have HC := Lib.hid hc; have HN := Lib.hid hn; have HM := Lib.hid hM; have HI := Lib.hid hid
  have NEG := Lib.hid h.gs_ne
  obtain ⟨R, hR⟩ : ∃ R, R = w.heap.size := ⟨_, rfl⟩
  have KR := Lib.hid (Bk.new w 45 ud0.cs)
  have V1 := Lib.hid (h.alloc (.cells ud0.cs 45))
  have G1 := Lib.hid (World.grownBy_alloc w (.cells ud0.cs 45) none)
  rw [← hR] at KR
  have SZ := Lib.hid hR
  clear h hc hn hM hid
  go_enter Try.func17, Try.ntmps17
  go_upto_region 1 with fail
  rw [← hR]
  change Code.wp _ _ _ _ (w.alloc (.cells ud0.cs 45))
  generalize w.alloc (.cells ud0.cs 45) = w1 at *
  clear hR
  have CS := Lib.hid (seek_any V1.out HN.out HC.out id HI.out)
  as_aux_lemma =>
    go_wp2_with fail
    refine CS.out.mono ?_
    rintro e w2 ⟨⟨p, s, h1, h2, h3, h4, rfl⟩ | ⟨hx, rfl⟩, hb⟩
    · have hbb := hb.alloc hb.size (.cells (pg p).cs 40)
      have G2 := Lib.hid (only_trans G1.out (only_below hbb none))
      have V2 := Lib.hid (V1.out.kept hbb)
      have KR2 := Lib.hid (KR.out.kept hbb)
      have KG := Lib.hid (Bk.new w2 40 (pg p).cs)
      obtain ⟨G, hG⟩ : ∃ G, G = w2.heap.size := ⟨_, rfl⟩
      rw [← hG] at KG
      have GB := Lib.hid (show G ≠ b by have := NEG.out; have := hb.size; have := G1.out.size; omega)
      have GR := Lib.hid (show G ≠ R by have := KR.out.lt; have := hb.size; omega)
      have H4 := Lib.hid (show s < 6 ∧ p ∈ ch ∧ (L p s).st = 1 from ⟨h1, h3, h4⟩)
      obtain ⟨hd, hw⟩ := div8 (p := p) h1 (by have := HI.out; omega)
      have PM := HC.out.mem h3
      have PO := (HC.out.page _ (mem_getD h3).choose_spec.1).2.2.2.2.2
      rw [(mem_getD h3).choose_spec.2] at PO
      have CC := Lib.hid (fun (w' : World) (hs : SV w' B g b gs r N M und pg) => change_any hs p (by have := HN.out; omega) s h1 (pg p) PO ⟨2, ((pg p).c s).d⟩ (ce_ghost (PO.2 s h1)) HM.out)
      subst h2
      clear hb hbb CS V1 G1 KR h1 h3 h4 PM PO
      obtain ⟨pp, hpp⟩ : ∃ pp, pp = pg p := ⟨_, rfl⟩
      have HPP := Lib.hid hpp
      rw [← hpp] at KG V2 KR2 G2 CC ⊢
      clear hpp
      dsimp only
      as_aux_lemma =>
        go_upto_region 4 with (refine store_page_new rfl _ _ rfl pp rfl rfl ?_; rw [← hG]; clear hG; generalize w2.alloc (.cells pp.cs 40) = w3 at *)
        have X0 := Lib.hid (fun (wx : World) (hx : Bk wx G 40 pp.cs) => show wx.cell? ⟨G, 4 + s * 2 + 1, none⟩ = some (.string (pp.c s).d) by
          rw [hx.cell]; rcases six H4.out.1 with h | h | h | h | h | h <;> rw [h] <;> rfl)
        have s6 : (s : Int) < 6 := by have := H4.out.1; omega
        have WR := Lib.hid (show IntKind.i64.wrap (p : Int) = (p : Int) by have := HI.out; simp [IntKind.wrap, IntKind.bits, IntKind.signed]; omega)
        have CC2 := Lib.hid (CC.out w3.drew V2.out.drew)
        refine wp_region_held (S := fun w' => Bk w' G 40 pp.cs) (by kernel_rfl) ?_
        refine held_take (fuel := 15) (i := 0) 23 rfl rfl (by kernel_rfl) (by kernel_rfl) (by kernel_rfl) (fun _ _ _ h => h) (held_move _ rfl (by kernel_rfl)) KG.out.drew ?_
        refine held_take (fuel := 14) (i := 1) 24 rfl rfl (by kernel_rfl) (by kernel_rfl) (by kernel_rfl) (fun _ _ _ h => h) (held_move _ rfl (by kernel_rfl)) KG.out.drew ?_
        simp only [Act.put, Act.eval, List.setIfInBounds_toArray, List.set_cons_succ, List.set_cons_zero]
        refine held_take (fuel := 13) (i := 2) (v := .int .i64 p) 25 rfl rfl (by kernel_rfl) (by kernel_rfl) (by kernel_rfl) (fun _ _ _ h => h) (by refine .inl ⟨by kernel_rfl, fun wx hx => ?_⟩; unfold execOp; go_simp; exact WR.out) KG.out.drew ?_
        refine held_take (fuel := 12) (i := 3) 26 rfl rfl (by kernel_rfl) (by kernel_rfl) (by kernel_rfl) (fun _ _ _ h => h) (held_move _ rfl (by kernel_rfl)) KG.out.drew ?_
        refine held_take (fuel := 11) (i := 4) 27 rfl rfl (by kernel_rfl) (by kernel_rfl) (by kernel_rfl) (fun _ _ _ h => h) (held_page _ rfl (by kernel_rfl) G pp rfl (fun w h => h)) KG.out.drew ?_
        refine held_take (fuel := 10) (i := 5) 28 rfl rfl (by kernel_rfl) (by kernel_rfl) (by kernel_rfl) (fun _ _ _ h => h) (held_move _ rfl (by kernel_rfl)) KG.out.drew ?_
        simp only [Act.put, Act.eval, List.setIfInBounds_toArray, List.set_cons_succ, List.set_cons_zero]
        refine held_take (fuel := 9) (i := 6) (v := .pointer (some ⟨G, 4, none⟩)) 29 rfl rfl (by kernel_rfl) (by kernel_rfl) (by kernel_rfl) (fun _ _ _ h => h) (by refine .inl ⟨by kernel_rfl, fun wx hx => ?_⟩; unfold execOp; go_simp) KG.out.drew ?_
        refine held_take (fuel := 8) (i := 7) (v := .pointer (some ⟨G, 4 + s * 2, none⟩)) 30 rfl rfl (by kernel_rfl) (by kernel_rfl) (by kernel_rfl) (fun _ _ _ h => h) (by refine .inl ⟨by kernel_rfl, fun wx hx => ?_⟩; unfold execOp; go_simp) KG.out.drew ?_
        refine held_take (fuel := 7) (i := 8) (v := .pointer (some ⟨G, 4 + s * 2 + 1, none⟩)) 31 rfl rfl (by kernel_rfl) (by kernel_rfl) (by kernel_rfl) (fun _ _ _ h => h) (by refine .inl ⟨by kernel_rfl, fun wx hx => ?_⟩; unfold execOp; go_simp) KG.out.drew ?_
        refine held_take (fuel := 6) (i := 9) (v := .string (pp.c s).d) 32 rfl rfl (by kernel_rfl) (by kernel_rfl) (by kernel_rfl) (fun _ _ _ h => h) (by refine .inl ⟨by kernel_rfl, fun wx hx => ?_⟩; have y0 := X0.out wx hx; unfold execOp; go_simp) KG.out.drew ?_
        refine held_take (fuel := 5) (i := 10) (v := .agg #[.int .i64 2, .string (pp.c s).d]) 33 rfl rfl (by kernel_rfl) (by kernel_rfl) (by kernel_rfl) (fun _ _ _ h => h) (by refine .inl ⟨by kernel_rfl, fun wx hx => ?_⟩; unfold execOp; go_simp) KG.out.drew ?_
        simp only [Act.put, Act.eval, List.setIfInBounds_toArray, List.set_cons_succ, List.set_cons_zero]
        refine held_ready (fuel := 4) 11 (by kernel_rfl) ?_
        refine held_call rfl (by kernel_rfl) 34 rfl 37 #[.pointer (some ⟨g, 0, none⟩), .int .i64 p, .int .i64 s, .agg pp.cs, .agg #[.int .i64 2, .string (pp.c s).d]] (by kernel_rfl) ?_
        refine CC2.out.mono ?_
        rintro e w4 ⟨rfl, hsv, hg⟩
        have KG4 := Lib.hid (KG.out.drew.grown hg (fun e => GB.out (by injection e)))
        have V4 := Lib.hid hsv
        have KR4 := Lib.hid (KR2.out.drew.grown hg (fun e => by have := SZ.out; have := NEG.out; injection e with e; omega))
        have G4 := Lib.hid (only_trans (only_drew (World.grownBy.but G2.out (some b))) hg)
        have V5 := Lib.hid (show SV (w4.setRow R (udC p s (pp.c s)).cs) B g b gs r N (M + 1) und (upd pg p (putC pp s ⟨2, (pp.c s).d⟩)) from V4.out.grown (row := some R) (only_row w4 R _) (fun k hk => by cases hk; have := SZ.out; have := NEG.out; omega))
        have G5 := Lib.hid (only_setRow G4.out (show w.heap.size ≤ R by have := SZ.out; omega) (udC p s (pp.c s)).cs)
        have KR5 := Lib.hid (ud_bk (p := udC p s (pp.c s)) KR4.out)
        clear hsv hg V4 G4 CC CC2 V2 G2 KR2 KG
        refine ⟨_, rfl, KG4.out, ?_⟩
        simp only [Act.put, Act.eval, List.setIfInBounds_toArray, List.set_cons_succ, List.set_cons_zero]
        refine held_take (fuel := 3) (i := 12) (v := .agg (udC p s (pp.c s)).cs) 35 rfl rfl (by kernel_rfl) (by kernel_rfl) (by kernel_rfl) (fun _ _ _ h => h) (by refine .inl ⟨by kernel_rfl, fun wx hx => ?_⟩; unfold execOp; go_simp) KG4.out ?_
        refine held_take (fuel := 2) (i := 13) (v := .int .i64 0) 36 rfl rfl (by kernel_rfl) (by kernel_rfl) (by kernel_rfl) (fun _ _ _ h => h) (by refine .inl ⟨by kernel_rfl, fun wx hx => ?_⟩; unfold execOp; go_simp) KG4.out ?_
        simp only [Act.put, Act.eval, List.setIfInBounds_toArray, List.set_cons_succ, List.set_cons_zero]
        refine held_ready (fuel := 1) 14 (by kernel_rfl) ?_
        refine held_store_ud rfl _ _ rfl rfl (by kernel_rfl) R (udC p s (pp.c s)) ud0 rfl rfl KR4.out ⟨KG4.out.grown (only_row w4 R _) (fun e => GR.out (by injection e)), ?_⟩
        refine held_take (fuel := 0) (i := 15) 7 rfl rfl (by kernel_rfl) (by kernel_rfl) (by kernel_rfl) (fun _ _ _ h => h) (held_assign _ rfl (by kernel_rfl)) (KG4.out.grown (only_row w4 R _) (fun e => GR.out (by injection e))) ?_
        refine wpAnyH_done (by kernel_rfl) ?_ _
        simp only [Act.put, Act.eval, List.setIfInBounds_toArray, List.set_cons_succ, List.set_cons_zero]
        generalize w4.setRow R (udC p s (pp.c s)).cs = w5 at *
        go_wp2
        refine bodyPost_ret (ud_ct rfl _ _ R (udC p s (pp.c s)) KR5.out rfl) rfl ?_
        refine .inr ⟨p, s, H4.out.1, rfl, H4.out.2.1, H4.out.2.2, ?_, _, V5.out, ?_, G5.out⟩
        · rw [HPP.out, HC.out.cell H4.out.2.1 H4.out.1]; rfl
        · rw [HPP.out]
          have hce := HC.out.cell H4.out.2.1 H4.out.1
          rw [hce]
          refine HC.out.lay H4.out.2.1 H4.out.1 _ (ce_ghost ?_)
          rw [← hce]
          have PO := (HC.out.page _ (mem_getD H4.out.2.1).choose_spec.1).2.2.2.2.2
          rw [(mem_getD H4.out.2.1).choose_spec.2] at PO
          exact PO.2 s H4.out.1
    · have hbb := hb.alloc hb.size (.cells Pg.zero.cs 40)
      have G2 := Lib.hid (only_trans G1.out (only_below hbb none))
      have KR2 := Lib.hid (KR.out.kept hbb)
      have KR3 := Lib.hid (ud_bk (p := ud0) KR2.out)
      have B3 := Lib.hid (below_only (only_setRow G2.out (show w.heap.size ≤ R by have := SZ.out; omega) ud0.cs))
      have NX := Lib.hid hx
      clear hb hbb CS V1 G1 KR hx
      dsimp only
      as_aux_lemma =>
        go_upto_region 2 with (refine store_page_new rfl _ _ rfl Pg.zero rfl rfl ?_; generalize w2.alloc (.cells Pg.zero.cs 40) = w3 at *)
        go_wp2_with (first | (refine build_ud0 rfl rfl ?_) | (refine store_ud rfl _ _ rfl R ud0 ud0 rfl rfl KR2.out ?_; generalize w3.setRow R ud0.cs = w4 at *))
        refine bodyPost_ret (ud_ct rfl _ _ R ud0 KR3.out rfl) rfl ?_
        exact .inl ⟨NX.out, rfl, B3.out⟩
end Go.Proofs.Ytdhfcjplnbnkdaa
namespace Go.Proofs.Ytdhfcjplnbnkdaa
open Go.RowKit Go.Maps

section
variable {ops : Array Oper} {rest : List Oper} {o : Oper} {a : Act} {w : World} {Q : Exit → Act → World → Prop}
theorem ud_range {w : World} {g : Nat} {p s : Int} {c : Ce} (h : Bk w g 45 (udC p s c).cs) : w.rangeAt g 5 [.int .i64 c.st, .string c.d] := fun i v hv => by
  have hi : i < 2 := (List.getElem?_eq_some_iff.1 hv).1
  rw [h.cell]
  rcases (show i = 0 ∨ i = 1 by omega) with e | e <;> subst e <;> simp at hv <;> subst hv <;> rfl
theorem load_udc (hgd : o.guard = none) (x : Operand) (ho : o.op = .load 37 x) (g : Nat) (p s : Int) (c : Ce) (hx : a.eval x = .pointer (some ⟨g, 5, none⟩)) (hb : Bk w g 45 (udC p s c).cs)
    (h : wpList Try.prog ops Q rest (a.put o.dst (.agg #[.int .i64 c.st, .string c.d])) w) : wpList Try.prog ops Q (o :: rest) a w :=
  wpList_load_mid hgd 37 x ho g 5 hx [.int .i64 c.st, .string c.d] _ (ud_range hb) Try.underlying37 rfl (by show _ = some 2; kernel_rfl) (by simpa using h)
end
set_option maxRecDepth 100000 in
set_option maxHeartbeats 8000000 in
theorem restore_any {w : World} {B g b gs r N M : Nat} {und pg : Nat → Pg} (h : SV w B g b gs r N M und pg) (id : Nat) (hid : id < N) (s : Nat) (hs : s < 6) (hp : (pg id).ok) (c : Ce) (hc : c.ok) (hM : M < maxLen) :
    Calls Try.prog 20 #[.pointer (some ⟨g, 0, none⟩), .agg (udC id s c).cs] w fun e w' =>
      e = .returned (.int .i64 0) ∧ SV w' B g b gs r N (M + 1) und (upd pg id (putC (pg id) s c)) ∧ w.grownBy w' (some b) := by
  have NEG := Lib.hid h.gs_ne
  have CS := Lib.hid (fun (w' : World) (hs2 : SV w' B g b gs r N M und pg) => sv_set hs2 id hid (putC (pg id) s c) (putC_ok2 hp s c hc) hM)
  have CG := Lib.hid (fun (w' : World) (hs2 : SV w' B g b gs r N M und pg) => sv_get hs2 id hid)
  have H6 := Lib.hid hs
  have s6 : (s : Int) < 6 := by omega
  have s0 : (0 : Int) ≤ (s : Int) := by omega
  have s0' : ¬ (s : Int) < 0 := by omega
  have s6' : ¬ (6 : Int) ≤ (s : Int) := by omega
  have KU := Lib.hid (Bk.new w 45 (udC id s c).cs)
  have V1 := Lib.hid (h.alloc (.cells (udC id s c).cs 45))
  have G1 := Lib.hid (World.grownBy_alloc w (.cells (udC id s c).cs 45) (some b))
  obtain ⟨pp, hpp⟩ : ∃ pp, pp = pg id := ⟨_, rfl⟩
  rw [← hpp] at CS CG ⊢
  obtain ⟨u, hu⟩ : ∃ u, u = udC id s c := ⟨_, rfl⟩
  have HU := Lib.hid hu
  rw [← hu] at KU V1 G1 ⊢
  clear h hid hp hc hM hpp hu
  go_enter Try.func20, Try.ntmps20
  go_upto_region 1 with fail
  generalize w.alloc (.cells u.cs 45) = w1 at *
  obtain ⟨U, hU⟩ : ∃ U, U = w.heap.size := ⟨_, rfl⟩
  rw [← hU] at KU ⊢
  have SZ := Lib.hid hU
  rw [HU.out] at KU
  clear hU
  have x0 : w1.cell? ⟨U, 0, none⟩ = some (.int .i64 1) := KU.out.cell 0
  have x2 : w1.cell? ⟨U, 2, none⟩ = some (.int .i64 id) := KU.out.cell 2
  have x3 : w1.cell? ⟨U, 3, none⟩ = some (.int .i64 s) := KU.out.cell 3
  have CG1 := Lib.hid (CG.out w1 V1.out)
  as_aux_lemma =>
    go_wp2_with fail
    refine CG1.out.mono ?_
    rintro e w2 ⟨rfl, hb⟩
    have hbb := hb.alloc hb.size (.cells pp.cs 40)
    have V2 := Lib.hid (V1.out.kept hbb)
    have G2 := Lib.hid (only_trans G1.out (only_below hbb (some b)))
    have KU2 := Lib.hid (KU.out.kept hbb)
    have KG := Lib.hid (Bk.new w2 40 pp.cs)
    obtain ⟨G, hG⟩ : ∃ G, G = w2.heap.size := ⟨_, rfl⟩
    rw [← hG] at KG
    have GZ := Lib.hid (show w.heap.size < G by have := KU.out.lt; have := SZ.out; have := hb.size; omega)
    clear hb hbb CG CG1 V1 G1 KU x0 x2 x3
    dsimp only
    as_aux_lemma =>
      go_upto_region 6 with (refine store_page_new rfl _ _ rfl pp rfl rfl ?_; rw [← hG]; clear hG; generalize w2.alloc (.cells pp.cs 40) = w3 at *)
      have x3 : w3.cell? ⟨U, 3, none⟩ = some (.int .i64 s) := KU2.out.cell 3
      have KG3 := Lib.hid (putRow pp s H6.out c.st c.d KG.out)
      have KU3 := Lib.hid (show Bk (w3.setCells G (4 + s * 2) [.int .i64 c.st, .string c.d]) U 45 (udC id s c).cs from KU2.out.grown (setCells_only w3 G (4 + s * 2) _) (fun e => by have := SZ.out; have := GZ.out; injection e with e; omega))
      have V3 := Lib.hid (V2.out.grown (setCells_only w3 G (4 + s * 2) [.int .i64 c.st, .string c.d]) (fun k hk => by cases hk; have := GZ.out; have := NEG.out; omega))
      have G3 := Lib.hid (only_setCells G2.out (show w.heap.size ≤ G by have := GZ.out; omega) (4 + s * 2) [.int .i64 c.st, .string c.d])
      as_aux_lemma =>
        go_upto_region 7 with (first | (refine load_udc rfl _ rfl U id s c rfl KU2.out ?_) | (refine store_cell_at rfl _ _ rfl G pp s H6.out c.st c.d rfl rfl KG.out ?_; generalize w3.setCells G (4 + s * 2) [.int .i64 c.st, .string c.d] = w4 at *))
        clear KU2 KG V2 G2 x3
        have x2 : w4.cell? ⟨U, 2, none⟩ = some (.int .i64 id) := KU3.out.cell 2
        have CS2 := Lib.hid (CS.out w4 V3.out)
        as_aux_lemma =>
          go_wp2_with (refine load_page rfl _ rfl G (putC pp s c) rfl KG3.out ?_)
          refine CS2.out.mono ?_
          rintro e w5 ⟨rfl, hsv, hg⟩
          have V5 := Lib.hid hsv
          have G5 := Lib.hid (only_trans G3.out hg)
          clear hsv hg KG3 KU3 V3 G3 CS CS2 x2
          go_wp2
          go_ret
          exact ⟨rfl, V5.out, G5.out⟩
end Go.Proofs.Ytdhfcjplnbnkdaa
