/- The walk of Append. -/
import Derived.Test.YtgafajbdmegfgaaGreatWalMake
import Derived.Maps.AppendAt
import Derived.Deep.AppendLies
import Derived.Deep.RegionLaw
set_option linter.unusedVariables false
set_option linter.unusedSimpArgs false
namespace Go.Proofs.YtgafajbdmegfgaaGreat
open Go.RowKit

theorem Tryz.info3 : (Tryz.prog.info? 3).map (fun i => (i.zero, i.size, i.bytes)) = some (some (.int .i64 0), 1, 8) := by kernel_rfl
/-- A string appended to a row of bytes, at a step of a region that draws its order. -/
theorem step_append_string {P : Program} (w : World) {ops : Array Oper} {o : Oper} {a : Act} {K : Act → World → Prop} {Q : Exit → Act → World → Prop} {E : Prop} (hgd : o.guard = none) (sl x : Operand) (t u : TypeId)
    (ho : o.op = .call { callee := .builtin .append, args := #[sl, x], argTypes := #[t, u] })
    (base : Nat) (e : TypeId) (i : TypeInfo) (ht : P.underlying t = some (.slice e)) (hu : P.underlying u = some .string) (hi : P.info? e = some i) (hz : i.zero = some (.int .u8 0))
    (hsize : i.size = 1) (hby : i.bytes = 1)
    (v : Value) (n : Nat) (xs : List Value) (hs : a.eval sl = v) (hown : w.ownsRow base e 1 v n xs) (s : ByteArray) (hx : a.eval x = .string s)
    (h63 : n + s.size ≤ maxLen) (hbytes : n + s.size ≤ 140737488355328) (hbase : base ≤ w.heap.size)
    (h : ∀ v' w', w'.ownsRow base e 1 v' (n + s.size) (xs ++ Lib.strCells s) → w.grownBy w' v.ownBlock → K (a.put o.dst v') w') :
    if Region.wanted o (yielded ops a.tmps) = true then Oper.wp P o a w K Q else E := by
  have hw : Region.wanted o (yielded ops a.tmps) = true := by simp [Region.wanted, hgd]
  rw [if_pos hw]
  obtain ⟨v', w', hr, h2, h3, h4⟩ := Lib.run_append_own_string (P := P) w base t u o.type e i ht hu hi hz hsize hby v n xs hown s h63 hbytes hbase
  unfold Oper.wp execOp
  simp only [ho, resolve, invoke, builtin, Sem.run_bind, Sem.run_pure, Result.andThen_ok, List.map_toArray, List.map_cons, List.map_nil, hs, hx, hr]
  exact h _ _ h2 h3

/-- What Append leaves of the rest of memory. -/
def AppOut (w w' : World) (I : Wd) : Prop := Out w w' fun k => k = I.g ∨ I.pv.ownBlock = some k ∨ I.dv.ownBlock = some k
def AppPost (w : World) (B : Nat) (I : Wd) (L : Lg) (S : Dsk) (rec : ByteArray) (e : Ending) (w' : World) : Prop :=
  e = .returned (.tuple #[.int .i64 (L.append rec).2.1, .int .i64 (L.append rec).2.2]) ∧ ∃ dv pv, Wl w' B ⟨I.g, I.d, dv, pv⟩ (L.append rec).1 S ∧ AppOut w w' I ∧ (∀ k, pv.ownBlock = some k → I.pv.ownBlock = some k ∨ w.heap.size ≤ k)

theorem append_no {w : World} {B : Nat} {I : Wd} {L : Lg} {S : Dsk} (h : Wl w B I L S) (rec : ByteArray) (hs : rec.size ≤ maxLen) (hno : rec.size = 0 ∨ 65535 < rec.size ∨ L.room < rec.size + 2) :
    Calls Tryz.prog 10 #[I.ptr, .string rec] w (AppPost w B I L S rec) := by
  have CR := Lib.hid (fun n => room_any (h.kept (below_drewN (Below.refl _ _) n)))
  have H := Lib.hid h
  unfold maxLen at hs
  unfold AppPost
  have rm : L.room ≤ 300000 := by have := h.ok.n2; unfold Lg.room; omega
  unfold Lg.append
  by_cases h0 : rec.size = 0
  · obtain rfl : rec = ⟨#[]⟩ := by
      have : rec.data.size = 0 := h0
      obtain ⟨d⟩ := rec
      have := Array.eq_empty_of_size_eq_zero this
      dsimp only at this
      rw [this]
    rw [if_pos h0]
    unfold Wd.ptr at *
    have h00 : (⟨#[]⟩ : ByteArray).toList = [] := by rw [ByteArray.toList_eq]
    have h01 : (⟨#[]⟩ : ByteArray).toList.isEmpty = true := by rw [h00]; rfl
    clear hno rm hs h CR
    go_enter Tryz.func10, Tryz.ntmps10
    go_wp2
    go_ret2
    exact ⟨rfl, I.dv, I.pv, H.out, Out.refl _ _, fun k hk => .inl hk⟩
  rw [if_neg h0]
  have hne : rec.toList.isEmpty = false := by
    have h1 : rec ≠ ⟨#[]⟩ := by rintro rfl; exact h0 rfl
    have h := str_ne h1
    rw [ByteArray.toList_eq (⟨#[]⟩ : ByteArray)] at h
    simpa using h
  by_cases h1 : 65535 < rec.size
  · rw [if_pos h1]
    have h1' : (65535 : Int) < (rec.size : Int) := by omega
    unfold Wd.ptr at *
    clear hno rm h CR h0
    go_enter Tryz.func10, Tryz.ntmps10
    go_wp2
    go_ret2
    exact ⟨rfl, I.dv, I.pv, H.out, Out.refl _ _, fun k hk => .inl hk⟩
  rw [if_neg h1]
  have h2 : L.room < rec.size + 2 := by omega
  rw [if_pos h2]
  have h1' : ¬ (65535 : Int) < (rec.size : Int) := by omega
  have h2' : ((L.room : Nat) : Int) < (rec.size : Int) + 2 := by omega
  have CR0 := Lib.hid (CR.out 0)
  unfold Wd.ptr at *
  clear hno h CR h0
  go_enter Tryz.func10, Tryz.ntmps10
  go_wp2_with fail
  refine CR0.out.mono ?_
  rintro e w1 ⟨rfl, n, hw⟩
  subst w1
  go_wp2
  go_ret2
  exact ⟨rfl, I.dv, I.pv, H.out.kept (below_drewN (Below.refl _ _) n), Out.of_below (below_drewN (Below.refl _ _) n) _, fun k hk => .inl hk⟩

set_option maxRecDepth 100000 in
set_option maxHeartbeats 4000000 in
theorem append_yes {w : World} {B : Nat} {I : Wd} {L : Lg} {S : Dsk} (h : Wl w B I L S) (rec : ByteArray) (hB : B ≤ w.heap.size) (h0 : ¬ rec.size = 0) (h1 : ¬ 65535 < rec.size) (h2 : ¬ L.room < rec.size + 2) (hb : L.fin ≤ 1152921504606000000) :
    Calls Tryz.prog 10 #[I.ptr, .string rec] w (AppPost w B I L S rec) := by
  have CR := Lib.hid (fun n => room_any (h.kept (below_drewN (Below.refl _ _) n)))
  have H := Lib.hid h; have HB := Lib.hid hB
  unfold AppPost
  have OK := Lib.hid (Lg.more_ok h.ok rec (by omega) (by omega) hb)
  have rm : L.room ≤ 300000 := by have := h.ok.n2; unfold Lg.room; omega
  have FE : L.append rec = (L.more rec, L.fin, 0) := by unfold Lg.append; rw [if_neg h0, if_neg h1, if_neg h2]
  rw [FE]
  have SL := Lib.hid (show L.places.length ≤ 300000 ∧ L.data.size ≤ 300000 from by have a := h.ok.few; have b := h.ok.sz; have c := h.ok.rm; have d := h.ok.n2; omega)
  have hne : rec.toList.isEmpty = false := by
    have h1 : rec ≠ ⟨#[]⟩ := by rintro rfl; exact h0 rfl
    have h := str_ne h1
    rw [ByteArray.toList_eq (⟨#[]⟩ : ByteArray)] at h
    simpa using h
  have h1' : ¬ (65535 : Int) < (rec.size : Int) := by omega
  have h2' : ¬ ((L.room : Nat) : Int) < (rec.size : Int) + 2 := by omega
  have hrs : rec.size ≤ 65535 := by omega
  have HR := Lib.hid hrs
  have CN := Lib.hid (fun w => wnumber_any rec.size 2 w (by omega) (by omega) (by omega) (by omega))
  have SZ := Lib.hid (show (Oct.str rec.size 2).size = 2 from Oct.str_size _ _)
  have DA := Lib.hid (strCells_append L.data (Oct.str rec.size 2 ++ rec))
  have DZ := Lib.hid (show (L.data ++ (Oct.str rec.size 2 ++ rec)).size = L.data.size + (Oct.str rec.size 2 ++ rec).size from ByteArray.size_append ..)
  have ML := Lib.hid (show L.more rec = { L with places := L.places ++ [L.fin], data := L.data ++ (Oct.str rec.size 2 ++ rec), fin := L.fin + (2 + rec.size) } from rfl)
  have FI := Lib.hid hb
  obtain ⟨i1, hi, hy0, hy1, hy2⟩ := info_parts Tryz.info3
  obtain ⟨i2, hi2, hx0, hx1, hx2⟩ := info_parts Tryz.info5'
  generalize Oct.str rec.size 2 = nb at *
  generalize L.more rec = L' at *
  have CR0 := Lib.hid (CR.out 0)
  obtain ⟨g, d, dv, pv⟩ := I
  unfold Wd.ptr at *
  clear h CR FE h0 h1 h2 hb hrs
  dsimp only at CR0 ⊢
  go_enter Tryz.func10, Tryz.ntmps10
  go_wp2_with fail
  refine CR0.out.mono ?_
  rintro e w1 ⟨rfl, n, hw⟩
  have Bx := Lib.hid (show Below w.heap.size w w1 by rw [hw]; exact below_drewN (Below.refl _ _) n)
  have X := Lib.hid (H.out.kept Bx.out)
  clear hw CR0
  obtain ⟨c0, c1, c2, c3, c4, c5, c6, c7⟩ := X.out.cells
  dsimp only at c0 c1 c2 c3 c4 c5 c6 c7
  have T0 := Lib.hid (Bk.new w1 3 #[.int .i64 L.fin])
  have P0 := Lib.hid (World.ownsRow.alloc X.out.plc (.cells #[.int .i64 L.fin] 3))
  have K0 := Lib.hid (X.out.box.alloc (.cells #[.int .i64 L.fin] 3)); have D0 := Lib.hid (X.out.dat.alloc (.cells #[.int .i64 L.fin] 3)); have S0 := Lib.hid (X.out.dsk.kept ((Below.refl _ _).alloc (Nat.le_refl _) (.cells #[.int .i64 L.fin] 3)))
  go_wp2_with (at_builtin; refine wpList_append_own_at _ rfl _ _ 36 rfl B 3 i1 (.int .i64 0) 1 8 Tryz.underlying36 hi hy0 hy1 hy2 rfl (by decide) pv L.places.length (ints L.places) rfl P0.out ⟨w1.heap.size, 0, none⟩ 1 1 [.int .i64 L.fin] rfl rfl ?qc2 ?qc3 ?qc4 ?qc5 ?qc6 ?_)
  case qc2 =>
    intro j u hj
    rw [Addr.add_lit, Nat.zero_add]
    refine Eq.trans (T0.out.cell j) ?_
    simpa using hj
  case qc3 => simp [Value.oneCell']
  case qc4 => have := SL.out; unfold maxLen; omega
  case qc5 => have := SL.out; omega
  case qc6 => have := HB.out; have := Bx.out.size; simp; omega
  clear c0 c1 c2 c3 c4 c5 c6 c7
  intro pv' w2 hown hgrow _ hloc
  have hown' : w2.ownsRow B 3 1 pv' (L.places.length + 1) (ints (L.places ++ [L.fin])) := by
    have : ints (L.places ++ [L.fin]) = ints L.places ++ [.int .i64 L.fin] := by unfold ints; simp
    rw [this]; exact hown
  have LOC := Lib.hid (show ∀ k, pv'.ownBlock = some k → pv.ownBlock = some k ∨ w.heap.size ≤ k from fun k hk => by
    rcases hloc with e | e
    · rw [e] at hk; exact .inl hk
    · rw [e] at hk; have := Bx.out.size; simp at hk; omega)
  have K2 := Lib.hid (bk_grown K0.out P0.out hgrow (by decide)); have D2 := Lib.hid (own_grown' D0.out P0.out hgrow (by decide)); have S2 := Lib.hid (dk_grown S0.out P0.out hgrow (by decide) (by decide) (by decide))
  have O2 := Lib.hid (show Out w w2 (fun k => k = g ∨ pv.ownBlock = some k ∨ dv.ownBlock = some k) from ((Out.of_below Bx.out _).alloc _).then_ (q := fun k => pv.ownBlock = some k) (Out.of_grown hgrow (fun k hk _ => hk)) (fun i _ hi => .inr (.inl hi)))
  have P2 := Lib.hid hown'
  clear hown hown' hgrow hloc T0 P0 K0 D0 S0 X Bx
  obtain ⟨pa, pc, hpe⟩ := tx_slice P2.out
  subst hpe
  have f7 : w2.frozen? ⟨g, 7, none⟩ = false := K2.out.fz 7
  have z7 : w2.cell? ⟨g, 7, none⟩ = some pv := K2.out.cell 7
  go_upto_region 9 with fail
  clear f7 z7
  have K3 := Lib.hid (show Bk (w2.setCell ⟨g, 7, none⟩ (.slice pa (L.places.length + 1) pc)) g 71 #[d.ptr, .int .i64 L.first, .int .i64 L.n, .int .i64 L.start, .int .i64 L.fin, .int .i64 L.firm, dv, (.slice pa (L.places.length + 1) pc)] from K2.out.set 7 (.slice pa (L.places.length + 1) pc))
  have D3 := Lib.hid (own_far D2.out (p := ⟨g, 7, none⟩) K2.out (by decide) (.slice pa (L.places.length + 1) pc)); have P3 := Lib.hid (own_far P2.out (p := ⟨g, 7, none⟩) K2.out (by decide) (.slice pa (L.places.length + 1) pc)); have S3 := Lib.hid (S2.out.far (p := ⟨g, 7, none⟩) K2.out (by decide) (by decide) (by decide) (.slice pa (L.places.length + 1) pc))
  have O3 := Lib.hid (O2.out.set (q := ⟨g, 7, none⟩) (fun _ => .inl rfl) (.slice pa (L.places.length + 1) pc))
  clear K2 D2 P2 S2 O2
  generalize (w2.setCell ⟨g, 7, none⟩ (.slice pa (L.places.length + 1) pc)) = w3 at *
  have k1 : w3.cell? ⟨g, 6, none⟩ = some dv := K3.out.cell 6
  have hsz2 : ¬ 9223372036854775807 < nb.size + rec.size := by have := SZ.out; have := HR.out; omega
  go_region_law? (first
      | (go_simp; go_at_call 30; refine (CN.out _).mono ?_; rintro e w4 ⟨rfl, hb4⟩; have B4 := Lib.hid ((Below.refl w3.heap.size w3).drew.trans hb4); have k2 : w4.cell? ⟨g, 6, none⟩ = some dv := (K3.out.kept B4.out).cell 6; clear hb4)
      | (refine step_append_string _ rfl _ _ 63 9 rfl B 5 i2 Tryz.underlying63 Tryz.underlying9 hi2 hx0 hx1 hx2 dv L.data.size (Lib.strCells L.data) rfl (own_kept D3.out B4.out) (nb ++ rec) rfl (by have := SL.out; have := SZ.out; have := HR.out; rw [ByteArray.size_append]; unfold maxLen; omega) (by have := SL.out; have := SZ.out; have := HR.out; rw [ByteArray.size_append]; omega) (by have := HB.out; have := B4.out.size; have := O3.out.size; omega) ?_; intro dv' w5 hown hgrow; obtain ⟨da, dc, hde⟩ := tx_slice hown; subst hde; have k3 : w5.cell? ⟨g, 6, none⟩ = some dv := (bk_grown (K3.out.kept B4.out) (own_kept D3.out B4.out) hgrow (by decide)).cell 6; have k4 := (bk_grown (K3.out.kept B4.out) (own_kept D3.out B4.out) hgrow (by decide)).fz 6))
  all_goals
    have K5 := Lib.hid (bk_grown (K3.out.kept B4.out) (own_kept D3.out B4.out) hgrow (by decide)); have P5 := Lib.hid (own_grown' (own_kept P3.out B4.out) (own_kept D3.out B4.out) hgrow (by decide)); have S5 := Lib.hid (dk_grown (S3.out.kept B4.out) (own_kept D3.out B4.out) hgrow (by decide) (by decide) (by decide))
    have D5 := Lib.hid hown
    have O5 := Lib.hid (show Out w w5 (fun k => k = g ∨ pv.ownBlock = some k ∨ dv.ownBlock = some k) from (O3.out.then_ (Out.of_below B4.out (fun _ => False)) (fun i _ hi => hi.elim)).then_ (q := fun k => dv.ownBlock = some k) (Out.of_grown hgrow (fun k hk _ => hk)) (fun i _ hi => .inr (.inr hi)))
    clear hown hgrow k1 k2 k3 k4 K3 P3 S3 D3 O3 B4
    have K6 := Lib.hid (show Bk (w5.setCell ⟨g, 6, none⟩ (.slice da (L.data.size + (nb.size + rec.size)) dc)) g 71 #[d.ptr, .int .i64 L.first, .int .i64 L.n, .int .i64 L.start, .int .i64 L.fin, .int .i64 L.firm, .slice da (L.data.size + (nb.size + rec.size)) dc, .slice pa (L.places.length + 1) pc] from K5.out.set 6 _)
    have P6 := Lib.hid (own_far P5.out (p := ⟨g, 6, none⟩) K5.out (by decide) (.slice da (L.data.size + (nb.size + rec.size)) dc)); have S6 := Lib.hid (S5.out.far (p := ⟨g, 6, none⟩) K5.out (by decide) (by decide) (by decide) (.slice da (L.data.size + (nb.size + rec.size)) dc)); have D6 := Lib.hid (own_far D5.out (p := ⟨g, 6, none⟩) K5.out (by decide) (.slice da (L.data.size + (nb.size + rec.size)) dc))
    have O6 := Lib.hid (O5.out.set (q := ⟨g, 6, none⟩) (fun _ => .inl rfl) (.slice da (L.data.size + (nb.size + rec.size)) dc))
    clear K5 P5 S5 D5 O5
    generalize (w5.setCell ⟨g, 6, none⟩ (.slice da (L.data.size + (nb.size + rec.size)) dc)) = w6 at *
    have z4 : w6.cell? ⟨g, 4, none⟩ = some (.int .i64 L.fin) := K6.out.cell 4
    have f4 := K6.out.fz 4
    have hrs := HR.out
    have hfi := FI.out
    have EQ := Lib.hid (show ((L.fin + (2 + rec.size) : Nat) : Int) = (L.fin : Int) + (2 + (rec.size : Int)) by omega)
    have K7 := Lib.hid (show Bk (w6.setCell ⟨g, 4, none⟩ (.int .i64 ((L.fin : Int) + (2 + (rec.size : Int))))) g 71 #[d.ptr, .int .i64 L.first, .int .i64 L.n, .int .i64 L.start, .int .i64 ((L.fin : Int) + (2 + (rec.size : Int))), .int .i64 L.firm, .slice da (L.data.size + (nb.size + rec.size)) dc, .slice pa (L.places.length + 1) pc] from K6.out.set 4 _)
    have P7 := Lib.hid (own_far P6.out (p := ⟨g, 4, none⟩) K6.out (by decide) (.int .i64 ((L.fin : Int) + (2 + (rec.size : Int))))); have S7 := Lib.hid (S6.out.far (p := ⟨g, 4, none⟩) K6.out (by decide) (by decide) (by decide) (.int .i64 ((L.fin : Int) + (2 + (rec.size : Int))))); have D7 := Lib.hid (own_far D6.out (p := ⟨g, 4, none⟩) K6.out (by decide) (.int .i64 ((L.fin : Int) + (2 + (rec.size : Int)))))
    have O7 := Lib.hid (O6.out.set (q := ⟨g, 4, none⟩) (fun _ => .inl rfl) (.int .i64 ((L.fin : Int) + (2 + (rec.size : Int)))))
    clear K6 P6 S6 D6 O6
    go_wp2_with fail
    go_ret2
    refine ⟨rfl, .slice da (L.data.size + (nb.size + rec.size)) dc, .slice pa (L.places.length + 1) pc, ?_, O7.out, LOC.out⟩
    have e1 : L.data.size + (nb.size + rec.size) = L'.data.size := by rw [ML.out]; show _ = (L.data ++ (nb ++ rec)).size; rw [ByteArray.size_append, ByteArray.size_append]
    refine ⟨?_, H.out.bg, S7.out, ?_, ?_, OK.out⟩
    · have hk := K7.out
      rw [← EQ.out] at hk
      rw [ML.out]; exact hk
    · have hd := D7.out
      rw [DA.out, ByteArray.size_append] at hd
      rw [← e1]
      have e2 : L'.data = L.data ++ (nb ++ rec) := by rw [ML.out]
      rw [e2]; exact hd
    · have hp := P7.out
      have e3 : L'.places = L.places ++ [L.fin] := by rw [ML.out]
      rw [e3, List.length_append]; exact hp
theorem append_any {w : World} {B : Nat} {I : Wd} {L : Lg} {S : Dsk} (h : Wl w B I L S) (rec : ByteArray) (hB : B ≤ w.heap.size) (hs : rec.size ≤ maxLen) (hb : L.fin ≤ 1152921504606000000) :
    Calls Tryz.prog 10 #[I.ptr, .string rec] w (AppPost w B I L S rec) := by
  by_cases h0 : rec.size = 0
  · exact append_no h rec hs (.inl h0)
  by_cases h1 : 65535 < rec.size
  · exact append_no h rec hs (.inr (.inl h1))
  by_cases h2 : L.room < rec.size + 2
  · exact append_no h rec hs (.inr (.inr h2))
  exact append_yes h rec hB h0 h1 h2 hb
end Go.Proofs.YtgafajbdmegfgaaGreat
