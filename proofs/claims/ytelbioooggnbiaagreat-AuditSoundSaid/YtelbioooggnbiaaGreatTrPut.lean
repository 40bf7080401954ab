/- Layer 16: a leaf without the ghosts that needn't be kept. Layer 16, plain: a leaf pruned; the way is the same; steps with a page turned. Layer 16: Put. -/
import Derived.Test.YtelbioooggnbiaaGreatTrInsW
import Derived.Test.YtelbioooggnbiaaGreatShelf
set_option linter.unusedVariables false
set_option linter.unusedSimpArgs false
namespace Go.Proofs.YtelbioooggnbiaaGreat
open Go.RowKit Go.Maps

/-- A slice of keys, wherever it lies. -/
def SRow (w : World) (v : Value) (l : List ByteArray) : Prop :=
  l.length ≤ maxLen ∧ ∃ a c, v = .slice a l.length c ∧ (l = [] ∨ ∃ b off, a = some (⟨b, off, none⟩ : Addr) ∧ b < w.heap.size ∧ ∀ j, j < l.length → w.cell? ⟨b, off + j, none⟩ = some (.string (l.getD j ByteArray.empty)))
theorem SRow.kept {w w' : World} {v : Value} {l : List ByteArray} (h : SRow w v l) (hb : Below w.heap.size w w') : SRow w' v l := by
  obtain ⟨h0, a, c, e, h⟩ := h
  refine ⟨h0, a, c, e, ?_⟩
  rcases h with h | ⟨b, off, e1, hlt, hc⟩
  · exact .inl h
  · exact .inr ⟨b, off, e1, Nat.lt_of_lt_of_le hlt hb.size, fun j hj => (hb.cell (p := ⟨b, off + j, none⟩) hlt).trans (hc j hj)⟩
theorem SRow.nil (w : World) : SRow w (.slice none 0 0) [] := ⟨by unfold maxLen; simp, none, 0, rfl, .inl rfl⟩
open Classical in
theorem scontains_any (v : Value) (l : List ByteArray) (x : ByteArray) (w : World) (h : SRow w v l) :
    Calls Tryz.prog 84 #[v, .string x] w fun e w' => e = .returned (.bool (decide (x ∈ l))) ∧ w' = w := by
  obtain ⟨h0, a, c, rfl, h⟩ := h
  rcases h with rfl | ⟨b, off, rfl, hlt, hc⟩
  · have := Tryz.slices_Contains_string_empty a c x w
    refine this.mono ?_
    rintro e w' ⟨rfl, rfl⟩
    exact ⟨by simp, rfl⟩
  · have := Tryz.slices_Contains_string b off l.length c l x w (Nat.le_refl _) (by unfold maxLen at h0; omega) hc
    refine this.mono ?_
    rintro e w' ⟨rfl, rfl⟩
    refine ⟨?_, rfl⟩
    rw [List.take_length]
    congr 2
    have h1 := Lib.containsS_iff l x
    by_cases hx : x ∈ l
    · rw [decide_eq_true hx]; exact h1.2 hx
    · rw [decide_eq_false hx]
      cases hh : Lib.containsS l x
      · rfl
      · exact absurd (h1.1 hh) hx
/-- A leaf that lost some ghosts. -/
structure Prn (p cur : Pg) (keep : List ByteArray) (t : Nat) : Prop where
  nd : nodeOk cur
  hd : cur.k = p.k ∧ cur.l = p.l ∧ cur.s = p.s ∧ cur.n = p.n
  tl : t ≤ cnt cur.c
  low : ∀ q, q < t → cur.c q = p.c q
  sub : ∀ q, q < cnt cur.c → ∃ r, r < cnt p.c ∧ cur.c q = p.c r
  gone : ∀ r, r < cnt p.c → (∃ q, q < cnt cur.c ∧ cur.c q = p.c r) ∨ ((p.c r).st = 2 ∧ (p.c r).key ∉ keep)
  live : (∀ r, r < cnt p.c → (p.c r).st = 1) → cur = p
theorem Prn.start {p : Pg} (h : nodeOk p) (keep : List ByteArray) : Prn p p keep (cnt p.c) :=
  ⟨h, ⟨rfl, rfl, rfl, rfl⟩, Nat.le_refl _, fun _ _ => rfl, fun q hq => ⟨q, hq, rfl⟩, fun r hr => .inl ⟨r, hr, rfl⟩, fun _ => rfl⟩
theorem Prn.skip {p cur : Pg} {keep : List ByteArray} {t : Nat} (h : Prn p cur keep (t + 1)) : Prn p cur keep t := ⟨h.nd, h.hd, by have := h.tl; omega, fun q hq => h.low q (by omega), h.sub, h.gone, h.live⟩
theorem Prn.drop {p cur : Pg} {keep : List ByteArray} {t : Nat} (h : Prn p cur keep (t + 1)) (hl : p.l = 0) (hc : t < cnt p.c) (h2 : (p.c t).st = 2) (hk : (p.c t).key ∉ keep) : Prn p (cur.del t (cnt cur.c)) keep t := by
  have ht := h.tl
  have hlt : t < cnt cur.c := by omega
  obtain ⟨d1, d2⟩ := del_node cur t h.nd (h.hd.2.1.trans hl) hlt
  have hcell : ∀ q, q < cnt cur.c - 1 → (cur.del t (cnt cur.c)).c q = cur.c (if q < t then q else q + 1) := fun q hq => del_c cur hlt q hq
  refine ⟨nodeOk_of d1, ⟨h.hd.1, h.hd.2.1, h.hd.2.2.1, h.hd.2.2.2⟩, by rw [d2]; omega, fun q hq => ?_, fun q hq => ?_, fun r hr => ?_, fun hall => ?_⟩
  · rw [hcell q (by omega), if_pos hq]; exact h.low q (by omega)
  · rw [d2] at hq
    rw [hcell q hq]
    refine h.sub _ ?_
    split <;> omega
  · rcases h.gone r hr with ⟨q, hq, e⟩ | hg
    · by_cases e2 : q = t
      · rw [e2, h.low t (by omega)] at e
        exact .inr (by rw [← e]; exact ⟨h2, hk⟩)
      · left
        by_cases e3 : q < t
        · exact ⟨q, by rw [d2]; omega, by rw [hcell q (by omega), if_pos e3]; exact e⟩
        · exact ⟨q - 1, by rw [d2]; omega, by rw [hcell (q - 1) (by omega), if_neg (by omega), show q - 1 + 1 = q by omega]; exact e⟩
    · exact .inr hg
  · have := hall t hc
    rw [h2] at this
    cases this
theorem tpage_res1 {fn : Func} {p : Tmp} (hf : fn.results = #[.cell p 38]) (tmps : Array Value) (w : World) (g : Nat) (cs : Array Value) (h : Bk w g 38 cs) (hs : cs.size = 16) (hp : tmps.getD p undef = .pointer (some ⟨g, 0, none⟩)) :
    (results fn tmps).run Tryz.prog w = .ok (.agg cs) w := by
  have e := run_loadPage w g cs h hs
  simp only [results, hf]
  have : (Sem.run Tryz.prog (asAddr (tmps.getD p undef)) w) = .ok ⟨g, 0, none⟩ w := by rw [hp]; simp [asAddr, Sem.run_pure]
  simp [Sem.run_bind, Result.andThen]
  simp [Array.getD_eq_getD_getElem?] at this
  rw [this]
  simp [e]
open Classical in
set_option maxRecDepth 100000 in
set_option maxHeartbeats 8000000 in
theorem prune_any (p : Pg) (kv : Value) (keep : List ByteArray) (w : World) (h : nodeOk p) (hl : p.l = 0) (hk : SRow w kv keep) :
    Calls Tryz.prog 57 #[.agg p.cs, kv] w fun e w' => ∃ cur, e = .returned (.agg cur.cs) ∧ Prn p cur keep 0 ∧ Below w.heap.size w w' := by
  have HN := Lib.hid h; have HL := Lib.hid hl
  have KP := Lib.hid ((Bk.new w 38 p.cs).alloc (.cells Pg.zero.cs 38))
  have KR := Lib.hid (Bk.new2 w (.cells p.cs 38) 38 Pg.zero.cs)
  have B1 := Lib.hid (((Below.refl w.heap.size w).alloc (Nat.le_refl _) (.cells p.cs 38)).alloc (by simp) (.cells Pg.zero.cs 38))
  have CC := Lib.hid (fun w' => ncount_any p w')
  have CN := Lib.hid (fun (w' : World) (hb : Below w.heap.size w w') (x : ByteArray) => scontains_any kv keep x w' (hk.kept hb))
  have C6 := Lib.hid (cnt_le p.c)
  have ST := Lib.hid (Prn.start h keep)
  clear h hl hk
  go_enter Tryz.func57, Tryz.ntmps57
  go_upto_region 1 with fail
  change Code.wp _ _ _ _ ((w.alloc (.cells p.cs 38)).alloc (.cells Pg.zero.cs 38))
  obtain ⟨w1, hw1⟩ : ∃ w1, w1 = ((w.alloc (.cells p.cs 38)).alloc (.cells Pg.zero.cs 38)) := ⟨_, rfl⟩
  rw [← hw1] at KP KR B1 ⊢
  obtain ⟨R, hR⟩ : ∃ R, R = w.heap.size + 1 := ⟨_, rfl⟩
  rw [← hR] at KR ⊢
  obtain ⟨P, hP⟩ : ∃ P, P = w.heap.size := ⟨_, rfl⟩
  rw [← hP] at KP ⊢
  have SZ := Lib.hid (show P = w.heap.size ∧ R = w.heap.size + 1 from ⟨hP, hR⟩)
  clear hw1 hP hR
  go_wp2_with (refine load_page rfl _ rfl P p rfl KP.out ?_)
  refine (CC.out _).mono ?_
  rintro e w2 ⟨rfl, hb⟩
  have KP2 := Lib.hid (KP.out.kept hb); have KR2 := Lib.hid (KR.out.kept hb); have B2 := Lib.hid (below_then B1.out hb B1.out.size)
  clear hb KP KR B1 CC
  have cw : wrap64 (((cnt p.c : Nat) : Int) - 1) = ((cnt p.c : Nat) : Int) - 1 := by have := C6.out; unfold wrap64; omega
  as_aux_lemma =>
    go_upto_region 2 with fail
    go_loopw [5] (fun i wr => ∃ (t : Nat) (cur : Pg), t ≤ cnt p.c ∧ i = .int .i64 ((t : Int) - 1) ∧ Bk wr P 38 cur.cs ∧ Bk wr R 38 Pg.zero.cs ∧ Prn p cur keep t ∧ Below w.heap.size w wr) (fun i _ => (RowKit.intOf i + 1).toNat)
    case atStart => exact ⟨cnt p.c, p, Nat.le_refl _, (by first | rfl | rw [cw]), KP2.out, KR2.out, ST.out, B2.out⟩
    case round =>
      obtain ⟨t, cur, ht, rfl, hk1, hk2, hp, hb⟩ := hrel
      have K := Lib.hid hk1; have KRr := Lib.hid hk2; have PR := Lib.hid hp; have BW := Lib.hid hb
      clear hk1 hk2 hp hb KP2 KR2 B2 ST cw
      rcases Nat.eq_zero_or_pos t with rfl | hpos
      · rw [show (((0 : Nat) : Int) - 1) = -1 from rfl]
        clear ht
        as_aux_lemma =>
          go_wp2_with (first | (refine load_page rfl _ rfl P cur rfl K.out ?_) | (refine store_page rfl _ _ rfl R cur Pg.zero rfl rfl KRr.out ?_))
          refine bodyPost_ret (tpage_res1 rfl _ _ R cur.cs (row_bk KRr.out) rfl rfl) rfl ?_
          exact ⟨cur, rfl, PR.out, below_setRow BW.out (by have := SZ.out; omega) _⟩
      · obtain ⟨q, rfl⟩ : ∃ q, t = q + 1 := ⟨t - 1, by omega⟩
        rw [show (((q + 1 : Nat) : Int) - 1) = (q : Int) from by omega]
        have Q6 := Lib.hid (show q < 6 by have := C6.out; omega)
        have QC := Lib.hid (show q < cnt p.c by omega)
        have q0 : (0 : Int) ≤ (q : Int) := by omega
        have q6 : (q : Int) < 6 := by have := Q6.out; omega
        have CE := PR.out.low q (by omega)
        have CK := Lib.hid (fun w' => key_any (cur.c q) w' (node_sz PR.out.nd q Q6.out))
        have qw : wrap64 ((q : Int) - 1) = (q : Int) - 1 := by have := Q6.out; unfold wrap64; omega
        unfold Ce.v at CK
        obtain ⟨cq, hcq⟩ : ∃ cq, cq = cur.c q := ⟨_, rfl⟩
        have CQ := Lib.hid (show cq = cur.c q ∧ cq = p.c q from ⟨hcq, by rw [hcq]; exact CE⟩)
        rw [← hcq] at CK
        obtain ⟨ck, hck⟩ : ∃ ck, ck = cq.key := ⟨_, rfl⟩
        have CKE := Lib.hid hck
        rw [← hck] at CK
        clear hpos ht CE hcq hck
        as_aux_lemma =>
          go_wp2_with (refine load_cell_at rfl _ rfl P cur q Q6.out rfl K.out ?_; rw [← CQ.out.1])
          refine (CK.out _).mono ?_
          rintro e w3 ⟨rfl, hb⟩
          have K3 := Lib.hid (K.out.kept hb); have KR3 := Lib.hid (KRr.out.kept hb); have B3 := Lib.hid (below_then BW.out hb BW.out.size)
          clear hb K KRr BW CK
          have x0 : w3.cell? ⟨P, 4 + q * 2, none⟩ = some (.int .i64 cq.st) := by
            rw [CQ.out.1]
            have := cell_range K3.out q Q6.out 0 (.int .i64 (cur.c q).st) rfl
            exact this
          generalize cq.rst = cr at *
          generalize decide cq.says = cs at *
          obtain ⟨st, hst⟩ : ∃ st, st = cq.st := ⟨_, rfl⟩
          have STE := Lib.hid hst
          rw [← hst] at x0
          clear hst
          by_cases h2 : st = 2
          · subst h2
            have CN1 := Lib.hid (CN.out w3 B3.out ck)
            as_aux_lemma =>
              go_wp2_with fail
              refine CN1.out.mono ?_
              rintro e w4 ⟨rfl, rfl⟩
              by_cases hin : ck ∈ keep
              · rw [decide_eq_true hin]
                clear hin CN1
                as_aux_lemma =>
                  go_wp2
                  go_roundw
                  case rel => exact ⟨q, cur, by have := QC.out; omega, by first | rw [qw] | rfl, K3.out, KR3.out, PR.out.skip, B3.out⟩
                  case measure => first | (rw [qw]; show (((q : Int) - 1) + 1).toNat < ((q : Int) + 1).toNat; omega) | (show (((q : Int) - 1) + 1).toNat < ((q : Int) + 1).toNat; omega)
              · rw [decide_eq_false hin]
                have PD := Lib.hid (PR.out.drop HL.out QC.out (by rw [← CQ.out.2]; exact STE.out.symm) (by rw [← CQ.out.2, ← CKE.out]; exact hin))
                have tok : takeOk cur (q : Int) := ⟨by omega, by have := PR.out.tl; omega⟩
                have CT := Lib.hid (fun w' => (show Calls Tryz.prog 85 #[.agg cur.cs, .int .i64 q] w' fun e w'' => e = .returned (.tuple #[.agg (cur.del q (cnt cur.c)).cs, .int .i64 0]) ∧ Below w'.heap.size w' w'' from by
                  have := take_any cur (q : Int) w'
                  unfold takeP takeE at this
                  rw [if_pos tok, if_pos tok, Int.toNat_natCast] at this
                  exact this))
                generalize cur.del q (cnt cur.c) = cur2 at *
                clear hin CN1 tok x0
                as_aux_lemma =>
                  go_wp2_with (refine load_page rfl _ rfl P cur rfl K3.out ?_)
                  refine (CT.out _).mono ?_
                  rintro e w5 ⟨rfl, hb⟩
                  have K5 := Lib.hid ((K3.out.kept hb).alloc (.cells cur2.cs 38)); have KR5 := Lib.hid ((KR3.out.kept hb).alloc (.cells cur2.cs 38))
                  have B5 := Lib.hid ((below_then B3.out hb B3.out.size).alloc (Nat.le_trans B3.out.size hb.size) (.cells cur2.cs 38))
                  have KQ5 := Lib.hid (Bk.new w5 38 cur2.cs)
                  obtain ⟨Q, hQ⟩ : ∃ Q, Q = w5.heap.size := ⟨_, rfl⟩
                  rw [← hQ] at KQ5
                  clear hb K3 KR3 B3 CT
                  dsimp only
                  as_aux_lemma =>
                    go_upto_region 7 with (refine store_page_new rfl _ _ rfl cur2 rfl rfl ?_; rw [← hQ]; clear hQ; generalize w5.alloc (.cells cur2.cs 38) = w6 at *)
                    have K7 := Lib.hid (row_bk (p := cur2) K5.out)
                    have KR7 := Lib.hid (row_far (cs := cur2.cs) KR5.out (show R ≠ P by have := SZ.out; omega))
                    have B7 := Lib.hid (below_setRow B5.out (show w.heap.size ≤ P by have := SZ.out; omega) cur2.cs)
                    as_aux_lemma =>
                      go_upto_region 3 with (first | (refine load_page rfl _ rfl Q cur2 rfl KQ5.out ?_) | (refine store_page rfl _ _ rfl P cur2 cur rfl rfl K5.out ?_; generalize w6.setRow P cur2.cs = w7 at *))
                      clear K5 KR5 B5 KQ5
                      go_wp2
                      go_roundw
                      case rel => exact ⟨q, cur2, by have := QC.out; omega, by first | rw [qw] | rfl, K7.out, KR7.out, PD.out, B7.out⟩
                      case measure => first | (rw [qw]; show (((q : Int) - 1) + 1).toNat < ((q : Int) + 1).toNat; omega) | (show (((q : Int) - 1) + 1).toNat < ((q : Int) + 1).toNat; omega)
          · have h2b : (st != 2) = true := by simp [h2]
            clear h2
            as_aux_lemma =>
              go_wp2
              go_roundw
              case rel => exact ⟨q, cur, by have := QC.out; omega, by first | rw [qw] | rfl, K3.out, KR3.out, PR.out.skip, B3.out⟩
              case measure => first | (rw [qw]; show (((q : Int) - 1) + 1).toNat < ((q : Int) + 1).toNat; omega) | (show (((q : Int) - 1) + 1).toNat < ((q : Int) + 1).toNat; omega)
end Go.Proofs.YtelbioooggnbiaaGreat
namespace Go.Proofs.YtelbioooggnbiaaGreat
open Go.RowKit Go.Maps

section
variable {pg : Nat → Pg} {n : Nat} {ow : Nat → Option Int} {sn : Int} {rt H : Nat} {lf ids : List Nat} {R : List (ByteArray × Ce)} {ff : Prop}
theorem Ix.dn_ne (h : Ix pg n ow sn rt H lf ids R ff) (k : ByteArray) {j : Nat} (hj : j < H) : dn pg k rt j ≠ dn pg k rt H := fun e => by
  have h1 := (h.at_ k j (Nat.le_of_lt hj)).2.2
  have h2 := (h.at_ k H (Nat.le_refl _)).2.2
  rw [e, h2] at h1
  omega
theorem Ix.dn_upd (h : Ix pg n ow sn rt H lf ids R ff) (k : ByteArray) (p : Pg) : ∀ j, j ≤ H → dn (upd pg (dn pg k rt H) p) k rt j = dn pg k rt j
  | 0, _ => rfl
  | j + 1, hj => by
    have ih := h.dn_upd k p j (by omega)
    have hne := h.dn_ne k (show j < H by omega)
    show (((upd pg (dn pg k rt H) p) (dn (upd pg (dn pg k rt H) p) k rt j)).c (fDown ((upd pg (dn pg k rt H) p) (dn (upd pg (dn pg k rt H) p) k rt j)) k)).child = _
    rw [ih, upd_ne _ _ hne]
    rfl
theorem Ix.pathL_upd (h : Ix pg n ow sn rt H lf ids R ff) (k : ByteArray) (p : Pg) {j : Nat} (hj : j ≤ H) : (pathL (upd pg (dn pg k rt H) p) k rt H)[j]? = some ⟨(dn pg k rt j : Nat), if j = H then p else pg (dn pg k rt j)⟩ := by
  rw [pathL_at _ k rt hj, h.dn_upd k p j hj]
  congr 2
  by_cases e : j = H
  · subst e; rw [if_pos rfl, upd_at]
  · rw [if_neg e, upd_ne _ _ (h.dn_ne k (by omega))]
/-- Rows less some ghosts. -/
def RLess (R R0 : List (ByteArray × Ce)) (keep : List ByteArray) : Prop := (∀ x, x ∈ R0 → x ∈ R) ∧ ∀ x, x ∈ R → x ∉ R0 → x.2.st = 2 ∧ x.1 ∉ keep
theorem RLess.refl (R : List (ByteArray × Ce)) (keep : List ByteArray) : RLess R R keep := ⟨fun _ h => h, fun x h h2 => absurd h h2⟩
theorem Ix.prune (h : Ix pg n ow sn rt H lf ids R ff) (k : ByteArray) {cur : Pg} {keep : List ByteArray} (hp : Prn (pg (dn pg k rt H)) cur keep 0) (ht : fThere (pg (dn pg k rt H)) k = false) :
    ∃ R0, Ix (upd pg (dn pg k rt H) cur) n ow sn rt H lf ids R0 (ff ∧ ∀ x, x ∈ R → x.2.st = 1) ∧ RLess R R0 keep ∧ fThere cur k = false ∧ cur.s = sn := by
  obtain ⟨u, v, e1, e2, hA, hB⟩ := h.leaf k
  obtain ⟨-, hm, -⟩ := h.at_ k H (Nat.le_refl _)
  have hpg := h.pgs _ hm
  have hl := h.leaf_l k
  have cok : cur.ok := node_ok_pg hp.nd (by have := hpg.ok.1; unfold Pg.head at this ⊢; rw [hp.hd.1, hp.hd.2.1, hp.hd.2.2.1, hp.hd.2.2.2]; exact this)
  have S := h.swap k cur (ff' := ff ∧ ∀ x, x ∈ R → x.2.st = 1) hp.nd (hp.hd.2.1.trans hl) cok (hp.hd.2.2.1.trans hpg.s) hp.hd.2.2.2 (fun q hq => by
    obtain ⟨r, hr, e⟩ := hp.sub q hq
    exact ⟨r, hr, by rw [e]⟩) (fun hf => ⟨hf.1, by
      have : cur = pg (dn pg k rt H) := hp.live fun r hr => hf.2 _ (by
        rw [e2]
        exact List.mem_append_left _ (List.mem_append_right _ (nrow.2 ⟨r, hr, rfl⟩)))
      rw [this]; exact Nat.le_refl _⟩) e1
  refine ⟨_, S, ⟨fun x hx => ?_, fun x hx hn => ?_⟩, ?_, hp.hd.2.2.1.trans hpg.s⟩
  · rw [e2]
    rcases List.mem_append.1 hx with hx | hx
    · rcases List.mem_append.1 hx with hx | hx
      · exact List.mem_append_left _ (List.mem_append_left _ hx)
      · obtain ⟨q, hq, rfl⟩ := nrow.1 hx
        obtain ⟨r, hr, e⟩ := hp.sub q hq
        exact List.mem_append_left _ (List.mem_append_right _ (nrow.2 ⟨r, hr, by rw [e]⟩))
    · exact List.mem_append_right _ hx
  · rw [e2] at hx
    rcases List.mem_append.1 hx with hx | hx
    · rcases List.mem_append.1 hx with hx | hx
      · exact absurd (List.mem_append_left _ (List.mem_append_left _ hx)) hn
      · obtain ⟨r, hr, rfl⟩ := nrow.1 hx
        rcases hp.gone r hr with ⟨q, hq, e⟩ | hg
        · exact absurd (List.mem_append_left _ (List.mem_append_right _ (nrow.2 ⟨q, hq, by rw [e]⟩))) hn
        · exact hg
    · exact absurd (List.mem_append_right _ hx) hn
  · cases hc : fThere cur k
    · rfl
    · obtain ⟨q, hq, e⟩ := (leaf_there hp.nd k).1 hc
      obtain ⟨r, hr, e3⟩ := hp.sub q hq
      have : fThere (pg (dn pg k rt H)) k = true := (leaf_there hpg.nd k).2 ⟨r, hr, by
        show ((pg (dn pg k rt H)).c r).key = k
        rw [← e3]; exact e⟩
      rw [ht] at this
      cases this
end
theorem set_range {w : World} {g2 o : Nat} {L : List Value} (h : ∀ j, j < L.length → (w.cell? ⟨g2, o + j, none⟩).isSome = true) : (w.setCells g2 o L).rangeAt g2 o L := fun j v hv => by
  have hj := (List.getElem?_eq_some_iff.1 hv).1
  rw [World.cell?_setCells_in g2 L o w h j hj]
  rw [List.getElem?_eq_getElem hj] at hv
  exact hv
theorem far_range {w : World} {g2 o o' : Nat} {L M : List Value} (h : w.rangeAt g2 o' M) (hs : o' + M.length ≤ o ∨ o + L.length ≤ o') : (w.setCells g2 o L).rangeAt g2 o' M := fun j v hv => by
  have hj := (List.getElem?_eq_some_iff.1 hv).1
  rw [World.cell?_setCells_out g2 L o w _ (fun _ _ => by show o' + j < o ∨ o + L.length ≤ o' + j; omega)]
  exact h j v hv
theorem range_cons {w : World} {g2 o : Nat} {v : Value} {L : List Value} (h1 : w.cell? ⟨g2, o, none⟩ = some v) (h2 : w.rangeAt g2 (o + 1) L) : w.rangeAt g2 o (v :: L) := fun j x hx => by
  cases j with
  | zero => rw [Nat.add_zero, h1]; simpa using hx
  | succ j =>
    have := h2 j x (by simpa using hx)
    rw [Nat.add_assoc, Nat.add_comm 1 j] at this
    exact this
theorem im_list (m : Im) : m.cs.toList = .int .i64 m.id :: m.p.cs.toList := rfl
/-- A page of a step in a row of steps is another one. -/
theorem PthAt.page {w : World} {g2 H : Nat} {l l' : List Im} {p : Pg} (h : PthAt w g2 l) (hl : l.length = H + 1) (hl' : l'.length = H + 1) (h1 : ∀ j, j < H → l'[j]? = l[j]?) (h2 : ∀ m, l[H]? = some m → l'[H]? = some ⟨m.id, p⟩) : PthAt (w.setCells g2 (H * 17 + 1) p.cs.toList) g2 l' := by
  refine ⟨by have := (setCells_size g2 p.cs.toList w (H * 17 + 1)).1; rw [this]; exact h.1, fun i m hi => ?_⟩
  have hiH : i < H + 1 := by have := (List.getElem?_eq_some_iff.1 hi).1; omega
  by_cases e : i = H
  · subst e
    obtain ⟨m0, hm0⟩ : ∃ m0, l[i]? = some m0 := ⟨_, List.getElem?_eq_getElem (by omega)⟩
    have e2 := h2 m0 hm0
    rw [hi] at e2
    injection e2 with e2
    have e3 : m.cs.toList = .int .i64 m0.id :: p.cs.toList := by rw [e2]; exact im_list _
    have r0 := h.2 i m0 hm0
    rw [im_list] at r0
    rw [e3]
    have l16 : p.cs.toList.length = 16 := pg_len p
    have k16 : m0.p.cs.toList.length = 16 := pg_len m0.p
    generalize p.cs.toList = L at *
    generalize m0.p.cs.toList = K at *
    refine range_cons ?_ (set_range fun j hj => ?_)
    · rw [World.cell?_setCells_out g2 L (i * 17 + 1) w _ (fun _ _ => by show i * 17 < i * 17 + 1 ∨ _; omega)]
      exact r0 0 _ rfl
    · have hk : j < K.length := by omega
      have := r0 (j + 1) K[j] (by rw [List.getElem?_cons_succ, List.getElem?_eq_getElem hk])
      rw [show i * 17 + 1 + j = i * 17 + (j + 1) by omega, this]; rfl
  · have e3 := h1 i (by omega)
    rw [hi] at e3
    refine far_range (h.2 i m e3.symm) (.inl ?_)
    rw [im_len]; omega
end Go.Proofs.YtelbioooggnbiaaGreat
namespace Go.Proofs.YtelbioooggnbiaaGreat
open Go.RowKit Go.Maps

section
variable {ops : Array Oper} {rest : List Oper} {o : Oper} {a : Act} {w : World} {Q : Exit → Act → World → Prop}
theorem build_udK0 (hg : o.guard = none) (x y : Operand) (ho : o.op = .build 72 #[(0, .const (.int .i64 2)), (1, x), (4, y)]) (s : Int) (k : ByteArray) (hx : a.eval x = .int .i64 s) (hy : a.eval y = .string k) (h : wpList Tryz.prog ops Q rest (a.put o.dst (.agg (udK s k czero).cs)) w) : wpList Tryz.prog ops Q (o :: rest) a w := by
  refine wpList_plain hg fun K' hK' => ?_
  have hb : (Instr.build 72 #[(0, .int .i64 2), (1, .int .i64 s), (4, .string k)]).run Tryz.prog w = .ok (.agg (udK s k czero).cs) w := by kernel_rfl
  unfold Oper.wp execOp
  have hc : a.eval (.const (.int .i64 2)) = .int .i64 2 := rfl
  simp only [ho, Sem.run_bind, Sem.run_pure, Result.andThen_ok, List.map_toArray, List.map_cons, List.map_nil, hc, hx, hy, hb]
  exact hK' _ _ h
theorem store_pth_page (hgd : o.guard = none) (x y : Operand) (ho : o.op = .store 38 x y) (g2 H : Nat) (m : Im) (p : Pg) (hx : a.eval x = .pointer (some ⟨g2, H * 17 + 1, none⟩)) (hy : a.eval y = .agg p.cs) (hr : w.rangeAt g2 (H * 17) m.cs.toList) (hf : ∀ j, w.frozen? ⟨g2, j, none⟩ = false)
    (h : wpList Tryz.prog ops Q rest (a.put o.dst undef) (w.setCells g2 (H * 17 + 1) p.cs.toList)) : wpList Tryz.prog ops Q (o :: rest) a w :=
  wpList_store_mid hgd 38 x y ho g2 (H * 17 + 1) p.cs hx hy (fun j hj => by
    refine ⟨?_, hf _⟩
    have hj2 : j < 16 := hj
    have hl : j < m.p.cs.toList.length := by rw [pg_len]; exact hj2
    have := hr (j + 1) (m.p.cs.toList[j]'hl) (by rw [im_list, List.getElem?_cons_succ, List.getElem?_eq_getElem hl])
    rw [show H * 17 + 1 + j = H * 17 + (j + 1) by omega, this]; rfl) (by rw [show p.cs.size = 16 from rfl]; kernel_rfl) (by simp [Pg.cs, Value.oneCell']) h
end
section
variable {ops : Array Oper} {S : World → Prop} {o : Oper} {a : Act}
theorem held_pth (y : Operand) (ho : o.op = .load 122 y) (hw : Region.wanted o (yielded ops a.tmps) = true) (g2 H : Nat) (m : Im)
    (hx : a.eval y = .pointer (some ⟨g2, H * 17, none⟩)) (hS : ∀ w, S w → w.rangeAt g2 (H * 17) m.cs.toList) : YieldsIf Tryz.prog ops S o (.agg m.cs) a := by
  have := yieldsIf_load_mid (P := Tryz.prog) (S := S) hw 122 y ho g2 (H * 17) hx m.cs.toList _ hS Tryz.underlying122 rfl (by rw [im_len]; kernel_rfl)
  simpa using this
theorem held_ce (y : Operand) (ho : o.op = .load 35 y) (hw : Region.wanted o (yielded ops a.tmps) = true) (g : Nat) (st : Int) (d : ByteArray)
    (hx : a.eval y = .pointer (some ⟨g, 0, none⟩)) (hS : ∀ w, S w → Bk w g 35 #[.int .i64 st, .string d]) : YieldsIf Tryz.prog ops S o (.agg #[.int .i64 st, .string d]) a :=
  held_row 35 _ y ho hw g #[.int .i64 st, .string d] Tryz.underlying35 hS hx fun w h => run_loadVar_row (P := Tryz.prog) w g 35 35 #[.int .i64 st, .string d] (0, 0) _ h Tryz.underlying35 rfl (by kernel_rfl)
end
def PutP (w : World) (B g b gs r N M n : Nat) (und pg : Nat → Pg) (st : Nat → Int) (kd rt : Nat → Nat) (ow : Nat → Option Int) (sn H : Nat) (lf ids : List Nat) (R : List (ByteArray × Ce)) (ff : Prop) (k val : ByteArray) (keep : List ByteArray) (e : Ending) (w' : World) : Prop :=
  (¬ keyOk k ∧ e = .returned (.tuple #[.agg ud0.cs, .int .i64 1]) ∧ Below w.heap.size w w') ∨ (keyOk k ∧ 20 < val.size ∧ e = .returned (.tuple #[.agg ud0.cs, .int .i64 2]) ∧ Below w.heap.size w w') ∨
  (keyOk k ∧ val.size ≤ 20 ∧ (
    ((∃ c, (k, c) ∈ R ∧ c.st = 1) ∧ e = .returned (.tuple #[.agg ud0.cs, .int .i64 160]) ∧ Below w.heap.size w w') ∨
    (∃ (c : Ce) (R' : List (ByteArray × Ce)) (pg' : Nat → Pg), (k, c) ∈ R ∧ c.st ≠ 1 ∧ e = .returned (.tuple #[.agg (udK sn k c).cs, .int .i64 0]) ∧ SV w' B g b gs r N (M + 1) und pg' ∧ Tv pg' n st kd rt ow sn H lf ids R' ff ∧ RSet R R' k ⟨1, dat k val⟩ ∧ w.grownBy w' (some b) ∧ ∀ i, i ∉ ids → pg' i = pg i) ∨
    ((∀ c, (k, c) ∉ R) ∧ w.grownBy w' (some b) ∧
      ((e = .returned (.tuple #[.agg ud0.cs, .int .i64 140]) ∧ (∃ nn : List Nat, nn.length ≤ H + 1 ∧ ∀ i, i < n → (ow i).isSome = true ∨ i ∈ nn) ∧ ∃ pgx, SV w' B g b gs r N (M + 40) und pgx) ∨
       (e = .returned (.tuple #[.agg (udK sn k czero).cs, .int .i64 0]) ∧ ∃ (pg' : Nat → Pg) (ow' : Nat → Option Int) (H' : Nat) (lf' ids' : List Nat) (R' R0 : List (ByteArray × Ce)) (news : List Nat), SV w' B g b gs r N (M + 40) und pg' ∧ Tv pg' n st kd rt ow' sn H' lf' ids' R' (ff ∧ ∀ x, x ∈ R → x.2.st = 1) ∧ RLess R R0 keep ∧ RIns R0 R' k ⟨1, dat k val⟩ ∧
          (ids'.Perm (news ++ ids) ∧ lf'.length ≤ lf.length + 1) ∧ (∀ i, i ∈ news → ow i = none) ∧ (∀ i, i ∉ news → ow' i = ow i) ∧ (∀ i, i ≠ 1 → i ∉ ids → i ∉ news → pg' i = pg i))))))
theorem Ix.weak {pg : Nat → Pg} {n : Nat} {ow : Nat → Option Int} {sn : Int} {rt H : Nat} {lf ids : List Nat} {R : List (ByteArray × Ce)} {ff ff' : Prop} (h : Ix pg n ow sn rt H lf ids R ff) (hf : ff' → ff) : Ix pg n ow sn rt H lf ids R ff' := ⟨h.tr, h.nd, h.pgs, h.ch, fun x => h.ff (hf x), h.hn⟩
set_option maxRecDepth 100000 in
set_option maxHeartbeats 16000000 in
theorem tput_any {w : World} {B g b gs r N M n : Nat} {und pg : Nat → Pg} {st : Nat → Int} {kd rt : Nat → Nat} {ow : Nat → Option Int} {sn H : Nat} {lf ids : List Nat} {R : List (ByteArray × Ce)} {ff : Prop} (h : SV w B g b gs r N M und pg) (hn : n ≤ N) (ht : Tv pg n st kd rt ow sn H lf ids R ff) (hM : M + 40 < maxLen) (k val : ByteArray) (hks : k.size ≤ maxLen) (hvs : val.size ≤ maxLen) (kv : Value) (keep : List ByteArray) (hkp : SRow w kv keep) :
    Calls Tryz.prog 26 #[.pointer (some ⟨g, 0, none⟩), .int .i64 sn, .string k, .string val, kv] w (PutP w B g b gs r N M n und pg st kd rt ow sn H lf ids R ff k val keep) := by
  have HV := Lib.hid h; have HN := Lib.hid hn; have HT := Lib.hid ht; have HM := Lib.hid hM
  have NEG := Lib.hid h.gs_ne
  have CF := Lib.hid (fun (w' : World) (hb : Below w.heap.size w w') => tfind_any (h.kept hb) hn ht k false)
  have PF := Lib.hid (ht.ix.pgs _ (ht.ix.at_ k H (Nat.le_refl _)).2.1)
  have TH := Lib.hid (ht.ix.there k)
  have H9 := Lib.hid ht.ix.high
  have KP := Lib.hid hkp
  have KR := Lib.hid (Bk.new w 72 ud0.cs)
  have V1 := Lib.hid (h.alloc (.cells ud0.cs 72))
  have B1 := Lib.hid ((Below.refl w.heap.size w).alloc (Nat.le_refl _) (.cells ud0.cs 72))
  have CI := Lib.hid (fun w' => iskey_any k w')
  have CLF := Lib.hid (fun w' => leaf_any k val 1 w' hks hvs)
  obtain ⟨rr, hrr⟩ : ∃ rr, rr = rt (sn - 1) := ⟨_, rfl⟩
  have RR := Lib.hid hrr
  rw [← hrr] at CF PF TH
  have AT := Lib.hid (pathL_at pg k rr (Nat.le_refl H))
  have LL := Lib.hid (pathL_len pg k rr H)
  obtain ⟨l, hl⟩ : ∃ l, l = dn pg k rr H := ⟨_, rfl⟩
  have LE := Lib.hid hl
  rw [← hl] at CF PF TH AT
  obtain ⟨p, hpp⟩ : ∃ p, p = pg l := ⟨_, rfl⟩
  have PE := Lib.hid hpp
  rw [← hpp] at CF TH AT
  have PND := Lib.hid (show nodeOk p from by rw [hpp]; exact PF.out.nd)
  have POK := Lib.hid (show p.ok from by rw [hpp]; exact PF.out.ok)
  have PL0 := Lib.hid (show p.l = 0 from by rw [hpp, hl, hrr]; exact ht.ix.leaf_l k)
  have FT := Lib.hid (fun (h : fThere p k = true) => (fThere_lt h).2)
  obtain ⟨m, hm⟩ : ∃ m : Im, m = ⟨(l : Nat), p⟩ := ⟨_, rfl⟩
  have MP := Lib.hid (show m.p = p from by rw [hm])
  have MM := Lib.hid hm
  rw [← hm] at AT
  clear h hn ht hM hks hvs hkp hrr hl hpp hm
  go_enter Tryz.func26, Tryz.ntmps26
  go_upto_region 1 with fail
  change Code.wp _ _ _ _ (w.alloc (.cells ud0.cs 72))
  obtain ⟨U, hU⟩ : ∃ U, U = w.heap.size := ⟨_, rfl⟩
  have UE := Lib.hid (show w.heap.size ≤ U ∧ U = w.heap.size from ⟨by omega, hU⟩)
  rw [← hU] at KR ⊢
  obtain ⟨w1, hw1⟩ : ∃ w1, w1 = w.alloc (.cells ud0.cs 72) := ⟨_, rfl⟩
  rw [← hw1] at KR V1 B1 ⊢
  have KRL := Lib.hid KR.out.lt
  clear hw1 hU
  go_wp2_with fail
  refine (CI.out _).mono ?_
  rintro e w2 ⟨rfl, rfl⟩
  by_cases hk : keyOk k
  · rw [decide_eq_true hk]
    have HK := Lib.hid hk
    clear hk CI
    by_cases hv : val.size ≤ 20
    · have HVL := Lib.hid hv
      have v1 : ¬ (20 : Int) < (val.size : Int) := by omega
      have v2 : decide (20 < val.size) = false := decide_eq_false (by omega)
      have lo : leafOk k val 1 := ⟨HK.out.1, HK.out.2, hv, .inl rfl⟩
      have CLF2 := Lib.hid (fun w' => (show Calls Tryz.prog 54 #[.string k, .string val, .int .i64 1] w' fun e w'' => e = .returned (.tuple #[(⟨1, dat k val⟩ : Ce).v, .int .i64 0]) ∧ Below w'.heap.size w' w'' from by
        have := CLF.out w'
        unfold leafC leafE at this
        rw [if_pos lo, if_pos lo] at this
        exact this))
      unfold Ce.v at CLF2
      have DK := Lib.hid (show (⟨1, dat k val⟩ : Ce).ok from .inr ⟨.inl rfl, by show (dat k val).size ≤ 34; rw [dat_size]; have := HK.out.2; omega⟩)
      have LCO := Lib.hid (leaf_cell_ok HK.out hv (.inl rfl : (1 : Int) = 1 ∨ (1 : Int) = 2))
      clear hv lo CLF
      as_aux_lemma =>
        go_wp2_with fail
        refine (CF.out _ B1.out).mono ?_
        rintro e w3 ⟨v, rfl, hP, hb⟩
        obtain ⟨g2, cap, rfl, hg2, hg3, hrg⟩ := pth_at hP AT.out
        rw [LL.out] at hP ⊢
        have P3 := Lib.hid (show PthAt w3 g2 (pathL pg k rr H) from ⟨hg3, fun i mm hi => by
          obtain ⟨g2', cap', e1, -, -, h4⟩ := pth_at hP hi
          simp at e1
          rw [e1.1]; exact h4⟩)
        have FZ := Lib.hid (show ∃ cur, Bk w3 g2 122 cur from (ow_blk hP rfl).2.2)
        have G2 := Lib.hid (show w2.heap.size ≤ g2 from hg2)
        have KR3 := Lib.hid (KR.out.kept hb)
        have V3 := Lib.hid (V1.out.kept hb)
        have B3 := Lib.hid (below_then B1.out hb B1.out.size)
        clear hg2 hg3 hrg hP hb KR V1 B1 CF v1 v2
        obtain ⟨D, hD⟩ : ∃ D, D = dat k val := ⟨_, rfl⟩
        have DD := Lib.hid hD
        rw [← hD] at CLF2 DK LCO
        clear hD
        as_aux_lemma =>
          go_wp2_with fail
          refine (CLF2.out _).mono ?_
          rintro e w4 ⟨rfl, hb⟩
          have KR5 := Lib.hid ((KR3.out.kept hb).alloc (.cells #[.int .i64 1, .string D] 35))
          have V5 := Lib.hid ((V3.out.kept hb).alloc (.cells #[.int .i64 1, .string D] 35))
          have P5 := Lib.hid ((P3.out.kept hb).alloc (.cells #[.int .i64 1, .string D] 35))
          have FZ5 := Lib.hid (show ∃ cur, Bk (w4.alloc (.cells #[.int .i64 1, .string D] 35)) g2 122 cur from by obtain ⟨cur, hc⟩ := FZ.out; exact ⟨cur, (hc.kept hb).alloc _⟩)
          have B5 := Lib.hid ((below_then B3.out hb B3.out.size).alloc (Nat.le_trans B3.out.size hb.size) (.cells #[.int .i64 1, .string D] 35))
          have KE := Lib.hid (Bk.new w4 35 #[.int .i64 1, .string D])
          obtain ⟨E, hE⟩ : ∃ E, E = w4.heap.size := ⟨_, rfl⟩
          have W1 := Lib.hid (show U < w2.heap.size ∧ g2 < E ∧ U < g2 ∧ (g2 ≠ g ∧ g2 ≠ b ∧ g2 ≠ gs ∧ g2 ≠ r) from by
            have h1 := (P3.out.kept hb).1
            have h2 := G2.out
            have h3 := NEG.out
            have h4 := UE.out
            have h5 := KRL.out
            omega)
          rw [← hE] at KE
          clear hb KR3 V3 P3 FZ B3 CLF2
          dsimp only
          as_aux_lemma =>
            go_upto_region 11 with fail
            rw [← hE]
            generalize w4.alloc (.cells #[.int .i64 1, .string D] 35) = w5 at *
            clear hE
            have hH := H9.out
            have i1 : wrap64 (((H + 1 : Nat) : Int) - 1) = (H : Int) := by unfold wrap64; omega
            have i2 : (H : Int) < ((H + 1 : Nat) : Int) := by omega
            have i3 : (0 : Int) ≤ (H : Int) := by omega
            have i4 : (((H + 1 : Nat) : Int) - 1) = (H : Int) := by omega
            as_aux_lemma =>
              go_upto_region 12 with fail
              clear i1 i2 i3 i4 hH
              have RGE := Lib.hid (show ∀ w' : World, PthAt w' g2 (pathL pg k rr H) → w'.rangeAt g2 (H * 17) m.cs.toList from fun w' h => h.2 H m AT.out)
              have F5 := Lib.hid (show ∀ j, w5.frozen? ⟨g2, j, none⟩ = false from fun j => by obtain ⟨cur, hc⟩ := FZ5.out; exact hc.fz j)
              cases hfb : fThere p k
              · have THR := Lib.hid hfb
                have ABS := Lib.hid (show ∀ c, (k, c) ∉ R from fun c hc => by have := ((TH.out c).1 hc).1; rw [hfb] at this; cases this)
                have CC := Lib.hid (fun w' => ncount_any p w')
                have G5 := Lib.hid (only_below B5.out (some b))
                obtain ⟨fi, hfi⟩ : ∃ fi, fi = fAt p k := ⟨_, rfl⟩
                rw [← hfi]
                clear hfi hfb
                as_aux_lemma =>
                  go_wp2_with (refine load_pth_page rfl _ rfl g2 m H rfl (RGE.out _ P5.out) ?_; rw [MP.out])
                  refine (CC.out _).mono ?_
                  rintro e w6 ⟨rfl, hb⟩
                  have KR6 := Lib.hid (KR5.out.kept hb); have V6 := Lib.hid ((show SV w5 B g b gs r N M und pg from V5.out).kept hb); have P6 := Lib.hid (P5.out.kept hb); have KE6 := Lib.hid (KE.out.kept hb)
                  have FZ6 := Lib.hid (show ∃ cur, Bk w6 g2 122 cur from by obtain ⟨cur, hc⟩ := FZ5.out; exact ⟨cur, hc.kept hb⟩)
                  have B6 := Lib.hid (below_then B5.out hb B5.out.size)
                  clear hb CC KR5 V5 P5 KE FZ5 B5 G5 F5
                  have C6 := Lib.hid (cnt_le p.c)
                  by_cases h6 : cnt p.c = 6
                  · have h6b : (((cnt p.c : Nat) : Int) == 6) = true := by simp [h6]
                    have CP := Lib.hid (fun (w' : World) (hb : Below w.heap.size w w') => prune_any p kv keep w' PND.out PL0.out (KP.out.kept hb))
                    generalize hcn : cnt p.c = cn at h6 h6b ⊢
                    clear h6 hcn
                    as_aux_lemma =>
                      go_wp2_with (refine load_pth_page rfl _ rfl g2 m H rfl (RGE.out _ P6.out) ?_; rw [MP.out])
                      refine (CP.out _ B6.out).mono ?_
                      rintro e w7 ⟨cur, rfl, hpr, hb⟩
                      have KR7 := Lib.hid (KR6.out.kept hb); have V7 := Lib.hid (V6.out.kept hb); have P7 := Lib.hid (P6.out.kept hb); have KE7 := Lib.hid (KE6.out.kept hb)
                      have FZ7 := Lib.hid (show ∃ cur, Bk w7 g2 122 cur from by obtain ⟨cur, hc⟩ := FZ6.out; exact ⟨cur, hc.kept hb⟩)
                      have B7 := Lib.hid (below_then B6.out hb B6.out.size)
                      have F7 := Lib.hid (show ∀ j, w7.frozen? ⟨g2, j, none⟩ = false from fun j => by obtain ⟨cur, hc⟩ := FZ7.out; exact hc.fz j)
                      clear hb CP KR6 V6 P6 KE6 FZ6 B6
                      obtain ⟨R0, q1, q2, q3, q4⟩ := HT.out.ix.prune k (cur := cur) (keep := keep) (by rw [← RR.out, ← LE.out, ← PE.out]; exact hpr) (by rw [← RR.out, ← LE.out, ← PE.out]; exact THR.out)
                      rw [← RR.out, ← LE.out] at q1
                      have RLS := Lib.hid q2
                      have DNE := Lib.hid (fun j hj => HT.out.ix.dn_upd k cur j hj)
                      rw [← RR.out, ← LE.out] at DNE
                      have DNH := Lib.hid (show ∀ i, i ≠ dn (upd pg l cur) k rr H → pg i = upd pg l cur i from fun i hi => by
                        rw [DNE.out H (Nat.le_refl _), ← LE.out] at hi
                        rw [upd_ne _ _ hi])
                      have FTH := Lib.hid (show fThere ((upd pg l cur) (dn (upd pg l cur) k rr H)) k = false from by rw [DNE.out H (Nat.le_refl _), ← LE.out, upd_at]; exact q3)
                      have PGO := Lib.hid (show ∀ i, i ∉ ids → upd pg l cur i = pg i from fun i hi => upd_ne _ _ fun e => hi (by rw [e, LE.out, RR.out]; exact (HT.out.ix.at_ k H (Nat.le_refl _)).2.1))
                      have P8 := Lib.hid (show PthAt (w7.setCells g2 (H * 17 + 1) cur.cs.toList) g2 (pathL (upd pg l cur) k rr H) from P7.out.page (pathL_len _ _ _ _) (pathL_len _ _ _ _) (fun j hj => by
                        have := HT.out.ix.pathL_upd k cur (Nat.le_of_lt hj)
                        rw [← RR.out, ← LE.out] at this
                        rw [this, pathL_at _ _ _ (Nat.le_of_lt hj), if_neg (by omega)]) (fun mm hmm => by
                        have := HT.out.ix.pathL_upd k cur (Nat.le_refl H)
                        rw [← RR.out, ← LE.out] at this
                        rw [this, if_pos rfl]
                        rw [pathL_at _ _ _ (Nat.le_refl _)] at hmm
                        injection hmm with hmm
                        rw [← hmm, LE.out]))
                      have FZ8 := Lib.hid (show ∃ cu, Bk (w7.setCells g2 (H * 17 + 1) cur.cs.toList) g2 122 cu from by obtain ⟨cu, hc⟩ := FZ7.out; exact ⟨_, Bk.lays _ _ _ _ hc⟩)
                      have V8 := Lib.hid (V7.out.grown (setCells_only w7 g2 (H * 17 + 1) cur.cs.toList) (fun k hk => by cases hk; exact W1.out.2.2.2))
                      have KR8 := Lib.hid (KR7.out.grown (setCells_only w7 g2 (H * 17 + 1) cur.cs.toList) (fun e => by have := W1.out; injection e with e; omega))
                      have KE8 := Lib.hid (KE7.out.grown (setCells_only w7 g2 (H * 17 + 1) cur.cs.toList) (fun e => by have := W1.out; injection e with e; omega))
                      have G8 := Lib.hid (only_setCells (only_below B7.out (some b)) (show w.heap.size ≤ g2 by have := W1.out; have := UE.out; omega) (H * 17 + 1) cur.cs.toList)
                      have IX8 := Lib.hid q1
                      clear q1 q2 q3 q4 hpr
                      as_aux_lemma =>
                        go_upto_region 18 with (refine store_pth_page rfl _ _ rfl g2 H m cur rfl rfl (RGE.out _ P7.out) F7.out ?_)
                        obtain ⟨w8, hw8⟩ : ∃ w8, w8 = w7.setCells g2 (H * 17 + 1) cur.cs.toList := ⟨_, rfl⟩
                        rw [← hw8] at P8 V8 KR8 KE8 G8 FZ8 ⊢
                        clear hw8 KR7 V7 P7 KE7 FZ7 B7 F7
                        have P6 := P8; have V6 := V8; have KR6 := KR8; have KE6 := KE8; have G6 := G8; have FZ6 := FZ8
                        clear P8 V8 KR8 KE8 G8 FZ8
                        have IXX := Lib.hid IX8.out
                        have ST := Lib.hid (InsSt.start IXX.out (c0 := ⟨1, D⟩) LCO.out.1 (by rw [LCO.out.2.1]; exact FTH.out))
                        rw [LCO.out.2.1] at ST
                        have CINS := Lib.hid (tinsert_any V6.out HN.out HT.out.vol ST.out DNH.out HM.out g2 cap P6.out W1.out.2.2.2.2.1 (fun q cs hq e => by subst e; obtain ⟨cur, hc⟩ := FZ6.out; exact Bk.ne_ hc hq (by decide) rfl) (by show D.size ≤ maxLen; have h1 := DK.out; rcases h1 with ⟨h1, -⟩ | ⟨-, h1⟩; cases h1; unfold maxLen; have h2 : D.size ≤ 34 := h1; omega))
                        clear FZ6
                        as_aux_lemma =>
                          go_wp2_with (refine load_ce rfl _ rfl E 1 D rfl KE6.out ?_)
                          refine CINS.out.mono ?_
                          rintro e w8 ⟨hg, ⟨rfl, ⟨nn, hn1, hn2⟩, pgx, hsx⟩ | ⟨rfl, pg', ow', H', lf', ids', R', news, hsx, hvx, hix, hri, hpm, hnw, hno, hnp⟩⟩
                          · have KR8 := Lib.hid (KR6.out.grown hg (fun e => by have := UE.out; have := NEG.out; injection e with e; omega))
                            have RES := Lib.hid (show PutP w B g b gs r N M n und pg st kd rt ow sn H lf ids R ff k val keep (.returned (.tuple #[.agg ud0.cs, .int .i64 140])) (w8.setRow U ud0.cs) from .inr (.inr ⟨HK.out, HVL.out, .inr (.inr ⟨ABS.out, only_setRow (only_trans G6.out hg) (show w.heap.size ≤ U from UE.out.1) _, .inl ⟨rfl, ⟨nn, hn1, hn2⟩, pgx, hsx.row (by have := UE.out; have := NEG.out; omega) _⟩⟩)⟩))
                            clear hg hn1 hn2 hsx CINS V6 P6 KE6 KR6 G6
                            go_wp2_with (first | (refine build_ud0 rfl rfl ?_) | (refine store_ud rfl _ _ rfl U ud0 ud0 rfl rfl KR8.out ?_))
                            refine bodyPost_ret (ud_ct rfl _ _ U ud0 (ud_bk KR8.out) rfl) rfl ?_
                            exact RES.out
                          · have KR8 := Lib.hid (KR6.out.grown hg (fun e => by have := UE.out; have := NEG.out; injection e with e; omega))
                            obtain ⟨u, hu⟩ : ∃ u, u = udK sn k czero := ⟨_, rfl⟩
                            have UU := Lib.hid hu
                            have RES := Lib.hid (show PutP w B g b gs r N M n und pg st kd rt ow sn H lf ids R ff k val keep (.returned (.tuple #[.agg u.cs, .int .i64 0])) (w8.setRow U u.cs) from .inr (.inr ⟨HK.out, HVL.out, .inr (.inr ⟨ABS.out, only_setRow (only_trans G6.out hg) (show w.heap.size ≤ U from UE.out.1) _, .inr ⟨by rw [UU.out], pg', ow', H', lf', ids', R', _, news, hsx.row (by have := UE.out; have := NEG.out; omega) _, ⟨hvx, HT.out.s1, HT.out.st, HT.out.kd, by rw [← RR.out]; exact hix⟩, RLS.out, by rw [← DD.out]; exact hri, hpm, hnw, hno, fun i h1 h2 h3 => (hnp i h1 h2 h3).trans (PGO.out i h2)⟩⟩)⟩))
                            clear hu hg hsx hvx hix hri hpm hnw hno hnp CINS V6 P6 KE6 KR6 G6
                            go_wp2_with (first | (refine build_udK0 rfl _ _ rfl sn k rfl rfl ?_; rw [← UU.out]) | (refine store_ud rfl _ _ rfl U u ud0 rfl rfl KR8.out ?_))
                            refine bodyPost_ret (ud_ct rfl _ _ U u (ud_bk KR8.out) rfl) rfl ?_
                            exact RES.out
                  · have h6b : (((cnt p.c : Nat) : Int) == 6) = false := by simp; omega
                    have FTH := Lib.hid (show fThere (pg (dn pg k rr H)) k = false from by rw [← LE.out, ← PE.out]; exact THR.out)
                    have RLS := Lib.hid (RLess.refl R keep)
                    have IX8 := Lib.hid (show Ix pg n ow sn rr H lf ids R (ff ∧ ∀ x, x ∈ R → x.2.st = 1) from by rw [RR.out]; exact HT.out.ix.weak (fun h => h.1))
                    have G6 := Lib.hid (only_below B6.out (some b))
                    generalize hcn : cnt p.c = cn at h6 h6b ⊢
                    clear h6 hcn B6
                    as_aux_lemma =>
                      go_upto_region 18 with fail
                      have IXX := Lib.hid IX8.out
                      have ST := Lib.hid (InsSt.start IXX.out (c0 := ⟨1, D⟩) LCO.out.1 (by rw [LCO.out.2.1]; exact FTH.out))
                      rw [LCO.out.2.1] at ST
                      have CINS := Lib.hid (tinsert_any V6.out HN.out HT.out.vol ST.out (fun i _ => rfl) HM.out g2 cap P6.out W1.out.2.2.2.2.1 (fun q cs hq e => by subst e; obtain ⟨cur, hc⟩ := FZ6.out; exact Bk.ne_ hc hq (by decide) rfl) (by show D.size ≤ maxLen; have h1 := DK.out; rcases h1 with ⟨h1, -⟩ | ⟨-, h1⟩; cases h1; unfold maxLen; have h2 : D.size ≤ 34 := h1; omega))
                      clear FZ6
                      as_aux_lemma =>
                        go_wp2_with (refine load_ce rfl _ rfl E 1 D rfl KE6.out ?_)
                        refine CINS.out.mono ?_
                        rintro e w8 ⟨hg, ⟨rfl, ⟨nn, hn1, hn2⟩, pgx, hsx⟩ | ⟨rfl, pg', ow', H', lf', ids', R', news, hsx, hvx, hix, hri, hpm, hnw, hno, hnp⟩⟩
                        · have KR8 := Lib.hid (KR6.out.grown hg (fun e => by have := UE.out; have := NEG.out; injection e with e; omega))
                          have RES := Lib.hid (show PutP w B g b gs r N M n und pg st kd rt ow sn H lf ids R ff k val keep (.returned (.tuple #[.agg ud0.cs, .int .i64 140])) (w8.setRow U ud0.cs) from .inr (.inr ⟨HK.out, HVL.out, .inr (.inr ⟨ABS.out, only_setRow (only_trans G6.out hg) (show w.heap.size ≤ U from UE.out.1) _, .inl ⟨rfl, ⟨nn, hn1, hn2⟩, pgx, hsx.row (by have := UE.out; have := NEG.out; omega) _⟩⟩)⟩))
                          clear hg hn1 hn2 hsx CINS V6 P6 KE6 KR6 G6
                          go_wp2_with (first | (refine build_ud0 rfl rfl ?_) | (refine store_ud rfl _ _ rfl U ud0 ud0 rfl rfl KR8.out ?_))
                          refine bodyPost_ret (ud_ct rfl _ _ U ud0 (ud_bk KR8.out) rfl) rfl ?_
                          exact RES.out
                        · have KR8 := Lib.hid (KR6.out.grown hg (fun e => by have := UE.out; have := NEG.out; injection e with e; omega))
                          obtain ⟨u, hu⟩ : ∃ u, u = udK sn k czero := ⟨_, rfl⟩
                          have UU := Lib.hid hu
                          have RES := Lib.hid (show PutP w B g b gs r N M n und pg st kd rt ow sn H lf ids R ff k val keep (.returned (.tuple #[.agg u.cs, .int .i64 0])) (w8.setRow U u.cs) from .inr (.inr ⟨HK.out, HVL.out, .inr (.inr ⟨ABS.out, only_setRow (only_trans G6.out hg) (show w.heap.size ≤ U from UE.out.1) _, .inr ⟨by rw [UU.out], pg', ow', H', lf', ids', R', _, news, hsx.row (by have := UE.out; have := NEG.out; omega) _, ⟨hvx, HT.out.s1, HT.out.st, HT.out.kd, by rw [← RR.out]; exact hix⟩, RLS.out, by rw [← DD.out]; exact hri, hpm, hnw, hno, fun i h1 h2 h3 => hnp i h1 h2 h3⟩⟩)⟩))
                          clear hu hg hsx hvx hix hri hpm hnw hno hnp CINS V6 P6 KE6 KR6 G6
                          go_wp2_with (first | (refine build_udK0 rfl _ _ rfl sn k rfl rfl ?_; rw [← UU.out]) | (refine store_ud rfl _ _ rfl U u ud0 rfl rfl KR8.out ?_))
                          refine bodyPost_ret (ud_ct rfl _ _ U u (ud_bk KR8.out) rfl) rfl ?_
                          exact RES.out
              · have F6 := Lib.hid (FT.out hfb)
                have THR := Lib.hid hfb
                have C0 := Lib.hid ((TH.out _).2 ⟨hfb, rfl⟩)
                obtain ⟨fi, hfi⟩ : ∃ fi, fi = fAt p k := ⟨_, rfl⟩
                have FIE := Lib.hid hfi
                rw [← hfi] at C0 F6 ⊢
                have f6 : (fi : Int) < 6 := by have := F6.out; omega
                have f0 : (0 : Int) ≤ (fi : Int) := by omega
                have x0 : w5.cell? ⟨g2, H * 17 + 5 + fi * 2, none⟩ = some (.int .i64 (p.c fi).st) := by
                  have h1 := RGE.out w5 P5.out
                  rw [im_list, MP.out] at h1
                  have h2 := h1 (5 + fi * 2) (.int .i64 (p.c fi).st) (by
                    rw [show 5 + fi * 2 = (4 + fi * 2) + 1 by omega, List.getElem?_cons_succ]
                    rcases six F6.out with h | h | h | h | h | h <;> rw [h] <;> rfl)
                  rw [show H * 17 + 5 + fi * 2 = H * 17 + (5 + fi * 2) by omega]
                  exact h2
                obtain ⟨s, hs⟩ : ∃ s, s = (p.c fi).st := ⟨_, rfl⟩
                have SE := Lib.hid hs
                rw [← hs] at x0
                clear hfi hs hfb
                by_cases h1 : s = 1
                · subst h1
                  have RES := Lib.hid (fun (w' : World) (hb : Below w.heap.size w w') => show PutP w B g b gs r N M n und pg st kd rt ow sn H lf ids R ff k val keep (.returned (.tuple #[.agg ud0.cs, .int .i64 160])) w' from .inr (.inr ⟨HK.out, HVL.out, .inl ⟨⟨_, C0.out, SE.out.symm⟩, rfl, hb⟩⟩))
                  as_aux_lemma =>
                    go_wp2_with (first | (refine build_ud0 rfl rfl ?_) | (refine store_ud rfl _ _ rfl U ud0 ud0 rfl rfl KR5.out ?_))
                    refine bodyPost_ret (ud_ct rfl _ _ U ud0 (ud_bk KR5.out) rfl) rfl ?_
                    exact RES.out _ (below_setRow B5.out UE.out.1 _)
                · have h1b : (s == 1) = false := by simp [h1]
                  have CH := Lib.hid (fun (w' : World) (hs : SV w' B g b gs r N M und pg) => tchange_any hs sn k l (Nat.lt_of_lt_of_le PF.out.lt HN.out) fi F6.out p POK.out ⟨1, D⟩ DK.out (by have := HM.out; omega))
                  obtain ⟨u, hu⟩ : ∃ u, u = udK sn k (p.c fi) := ⟨_, rfl⟩
                  have HU := Lib.hid hu
                  have RES := Lib.hid (fun (w' : World) (hs : SV w' B g b gs r N (M + 1) und (upd pg l (putC p fi ⟨1, D⟩))) (hg : w.grownBy w' (some b)) => show PutP w B g b gs r N M n und pg st kd rt ow sn H lf ids R ff k val keep (.returned (.tuple #[.agg u.cs, .int .i64 0])) w' from by
                    obtain ⟨R', h3, h4⟩ := HT.out.set k (c := ⟨1, D⟩) (by rw [← RR.out, ← LE.out, ← PE.out]; exact THR.out) LCO.out.1 LCO.out.2.1
                    rw [← RR.out, ← LE.out, ← PE.out, ← FIE.out] at h3
                    refine .inr (.inr ⟨HK.out, HVL.out, .inr (.inl ⟨p.c fi, R', _, C0.out, by rw [← SE.out]; exact h1, by rw [HU.out], hs, h3, by rw [← DD.out]; exact h4, hg, fun i hi => upd_ne _ _ fun e => hi ?_⟩)⟩)
                    rw [e, LE.out, RR.out]; exact (HT.out.ix.at_ k H (Nat.le_refl _)).2.1)
                  rw [← MM.out, ← hu] at CH
                  clear hu
                  as_aux_lemma =>
                    go_upto_region 15 with fail
                    clear x0 h1 h1b f6 f0
                    obtain ⟨wv, hwv⟩ : ∃ wv, wv = w5.drew := ⟨_, rfl⟩
                    have S5 := Lib.hid (show PthAt wv g2 (pathL pg k rr H) ∧ Bk wv E 35 #[.int .i64 1, .string D] from by rw [hwv]; exact ⟨P5.out.block rfl, KE.out.drew⟩)
                    have V6 := Lib.hid (show SV wv B g b gs r N M und pg from by rw [hwv]; exact V5.out.drew)
                    have KR6 := Lib.hid (show Bk wv U 72 ud0.cs from by rw [hwv]; exact KR5.out.drew)
                    have B6 := Lib.hid (show Below w.heap.size w wv from by rw [hwv]; exact B5.out.drew)
                    refine wp_region_held (S := fun w' => PthAt w' g2 (pathL pg k rr H) ∧ Bk w' E 35 #[.int .i64 1, .string D]) (by kernel_rfl) ?_
                    show wpAnyH _ _ _ _ _ _ _ _ w5.drew
                    rw [← hwv]
                    clear hwv V5 KR5 B5 P5 KE FZ5 F5
                    refine held_take (fuel := 12) (i := 0) 66 rfl rfl (by kernel_rfl) (by kernel_rfl) (by kernel_rfl) (fun _ _ _ h => h) (held_move _ rfl (by kernel_rfl)) S5.out ?_
                    refine held_take (fuel := 11) (i := 1) 67 rfl rfl (by kernel_rfl) (by kernel_rfl) (by kernel_rfl) (fun _ _ _ h => h) (held_move _ rfl (by kernel_rfl)) S5.out ?_
                    refine held_take (fuel := 10) (i := 2) 68 rfl rfl (by kernel_rfl) (by kernel_rfl) (by kernel_rfl) (fun _ _ _ h => h) (held_move _ rfl (by kernel_rfl)) S5.out ?_
                    refine held_take (fuel := 9) (i := 3) 69 rfl rfl (by kernel_rfl) (by kernel_rfl) (by kernel_rfl) (fun _ _ _ h => h) (held_move _ rfl (by kernel_rfl)) S5.out ?_
                    simp only [Act.put, Act.eval, List.setIfInBounds_toArray, List.set_cons_succ, List.set_cons_zero]
                    refine held_take (fuel := 8) (i := 4) (v := .pointer (some ⟨g2, H * 17, none⟩)) 70 rfl rfl (by kernel_rfl) (by kernel_rfl) (by kernel_rfl) (fun _ _ _ h => h) (by refine .inl ⟨by kernel_rfl, fun wx hx => ?_⟩; unfold execOp; go_simp) S5.out ?_
                    refine held_take (fuel := 7) (i := 5) 71 rfl rfl (by kernel_rfl) (by kernel_rfl) (by kernel_rfl) (fun _ _ _ h => h) (held_pth _ rfl (by kernel_rfl) g2 H m rfl (fun w h => RGE.out w h.1)) S5.out ?_
                    refine held_take (fuel := 6) (i := 6) 72 rfl rfl (by kernel_rfl) (by kernel_rfl) (by kernel_rfl) (fun _ _ _ h => h) (held_move _ rfl (by kernel_rfl)) S5.out ?_
                    refine held_take (fuel := 5) (i := 7) 73 rfl rfl (by kernel_rfl) (by kernel_rfl) (by kernel_rfl) (fun _ _ _ h => h) (held_ce _ rfl (by kernel_rfl) E 1 D rfl (fun w h => h.2)) S5.out ?_
                    simp only [Act.put, Act.eval, List.setIfInBounds_toArray, List.set_cons_succ, List.set_cons_zero]
                    refine held_ready (fuel := 4) 8 (by kernel_rfl) ?_
                    refine held_call rfl (by kernel_rfl) 74 rfl 55 #[.pointer (some ⟨g, 0, none⟩), .int .i64 sn, .string k, .agg m.cs, .int .i64 fi, .agg #[.int .i64 1, .string D]] (by kernel_rfl) ?_
                    refine (CH.out wv V6.out).mono ?_
                    rintro e w7 ⟨rfl, hsv, hg⟩
                    have S7 := Lib.hid (show PthAt w7 g2 (pathL pg k rr H) ∧ Bk w7 E 35 #[.int .i64 1, .string D] from ⟨S5.out.1.grown hg (fun e => W1.out.2.2.2.2.1 (by injection e)), S5.out.2.grown hg (fun e => by have := W1.out; have := NEG.out; have := UE.out; injection e with e; omega)⟩)
                    have KR7 := Lib.hid (KR6.out.grown hg (fun e => by have := UE.out; have := NEG.out; injection e with e; omega))
                    have V8 := Lib.hid (show SV (w7.setRow U u.cs) B g b gs r N (M + 1) und (upd pg l (putC p fi ⟨1, D⟩)) from hsv.grown (row := some U) (only_row w7 U _) (fun k hk => by cases hk; have := UE.out; have := NEG.out; omega))
                    have G8 := Lib.hid (only_setRow (only_trans (only_below B6.out (some b)) hg) (show w.heap.size ≤ U from UE.out.1) u.cs)
                    have KU8 := Lib.hid (ud_bk (p := u) KR7.out)
                    have S8 := Lib.hid (show PthAt (w7.setRow U u.cs) g2 (pathL pg k rr H) ∧ Bk (w7.setRow U u.cs) E 35 #[.int .i64 1, .string D] from ⟨S7.out.1.row (by have := W1.out; omega) _, row_far S7.out.2 (by have := W1.out; omega)⟩)
                    clear hsv hg CH V6 KR6 B6 S5
                    refine ⟨_, rfl, S7.out, ?_⟩
                    simp only [Act.put, Act.eval, List.setIfInBounds_toArray, List.set_cons_succ, List.set_cons_zero]
                    refine held_take (fuel := 3) (i := 9) (v := .agg u.cs) 75 rfl rfl (by kernel_rfl) (by kernel_rfl) (by kernel_rfl) (fun _ _ _ h => h) (by refine .inl ⟨by kernel_rfl, fun wx hx => ?_⟩; unfold execOp; go_simp) S7.out ?_
                    refine held_take (fuel := 2) (i := 10) (v := .int .i64 0) 76 rfl rfl (by kernel_rfl) (by kernel_rfl) (by kernel_rfl) (fun _ _ _ h => h) (by refine .inl ⟨by kernel_rfl, fun wx hx => ?_⟩; unfold execOp; go_simp) S7.out ?_
                    simp only [Act.put, Act.eval, List.setIfInBounds_toArray, List.set_cons_succ, List.set_cons_zero]
                    refine held_ready (fuel := 1) 11 (by kernel_rfl) ?_
                    refine held_store_ud rfl _ _ rfl rfl (by kernel_rfl) U u ud0 rfl rfl KR7.out ⟨S8.out, ?_⟩
                    refine held_take (fuel := 0) (i := 12) 11 rfl rfl (by kernel_rfl) (by kernel_rfl) (by kernel_rfl) (fun _ _ _ h => h) (held_assign _ rfl (by kernel_rfl)) S8.out ?_
                    refine wpAnyH_done (by kernel_rfl) ?_ _
                    simp only [Act.put, Act.eval, List.setIfInBounds_toArray, List.set_cons_succ, List.set_cons_zero]
                    generalize w7.setRow U u.cs = w8 at *
                    go_wp2
                    refine bodyPost_ret (ud_ct rfl _ _ U u KU8.out rfl) rfl ?_
                    exact RES.out _ V8.out G8.out
    · have HVL := Lib.hid (show 20 < val.size by omega)
      have v1 : (20 : Int) < (val.size : Int) := by omega
      have v2 : decide (20 < val.size) = true := decide_eq_true (by omega)
      clear hv CF CLF
      as_aux_lemma =>
        go_wp2_with (first | (refine build_ud0 rfl rfl ?_) | (refine store_ud rfl _ _ rfl U ud0 ud0 rfl rfl KR.out ?_))
        refine bodyPost_ret (ud_ct rfl _ _ U ud0 (ud_bk KR.out) rfl) rfl ?_
        exact .inr (.inl ⟨HK.out, HVL.out, rfl, below_setRow B1.out UE.out.1 _⟩)
  · rw [decide_eq_false hk]
    have HK := Lib.hid hk
    clear hk CF CLF
    as_aux_lemma =>
      go_wp2_with (first | (refine build_ud0 rfl rfl ?_) | (refine store_ud rfl _ _ rfl U ud0 ud0 rfl rfl KR.out ?_))
      refine bodyPost_ret (ud_ct rfl _ _ U ud0 (ud_bk KR.out) rfl) rfl ?_
      exact .inl ⟨HK.out, rfl, below_setRow B1.out UE.out.1 _⟩
end Go.Proofs.YtelbioooggnbiaaGreat
