/- Layer 16, plain: the rows from a key on, leaf by leaf. Layer 16: scan, whatever the visitor does. Layer 16: Range. Layer 16: Seek. Layer 16: the reference's Same: two lists, pair by pair. -/
import Derived.Test.YtaiiimlmkigajaaGreatTrW2
import Derived.Test.YtaiiimlmkigajaaGreatTrW5
set_option linter.unusedVariables false
set_option linter.unusedSimpArgs false
namespace Go.Proofs.YtaiiimlmkigajaaGreat
open Go.RowKit Go.Maps

theorem Chn.at {nx : Nat → Nat} : ∀ {L : List Nat}, Chn nx L → ∀ q, q < L.length → nx (L.getD q 0) = L.getD (q + 1) 0
  | [], _, q, hq => absurd hq (Nat.not_lt_zero q)
  | x :: L, h, 0, _ => by
    have := h.next
    show nx x = L.getD 0 0
    rw [this]
    cases L <;> rfl
  | x :: L, h, q + 1, hq => by
    have := Chn.at h.tail q (by simpa using hq)
    exact this
/-- Where a segment begins. -/
def offS {α : Type} (Ls : List (List α)) (q : Nat) : Nat := (Ls.take q).flatten.length
theorem offS_succ {α : Type} (Ls : List (List α)) (q : Nat) (hq : q < Ls.length) : offS Ls (q + 1) = offS Ls q + (Ls[q]).length := by
  unfold offS
  rw [List.take_add_one, List.flatten_append, List.length_append, List.getElem?_eq_getElem hq]
  simp
theorem offS_all {α : Type} (Ls : List (List α)) : offS Ls Ls.length = Ls.flatten.length := by unfold offS; rw [List.take_length]
theorem offS_at {α : Type} (Ls : List (List α)) (q : Nat) (hq : q < Ls.length) (r : Nat) (hr : r < (Ls[q]).length) : Ls.flatten[offS Ls q + r]? = some (Ls[q])[r] := by
  have e : Ls.flatten = (Ls.take q).flatten ++ ((Ls[q]) ++ (Ls.drop (q + 1)).flatten) := by
    conv => lhs; rw [← List.take_append_drop q Ls]
    rw [List.flatten_append, List.drop_eq_getElem_cons hq, List.flatten_cons]
  rw [e, List.getElem?_append_right (by unfold offS; omega), show offS Ls q + r - (Ls.take q).flatten.length = r by unfold offS; omega, List.getElem?_append_left hr, List.getElem?_eq_getElem hr]
section
variable {pg : Nat → Pg} {n : Nat} {ow : Nat → Option Int} {sn : Int} {rt H : Nat} {lf ids : List Nat} {R : List (ByteArray × Ce)} {ff : Prop}
/-- The rows from a key on. -/
def fromR (R : List (ByteArray × Ce)) (k : ByteArray) : List (ByteArray × Ce) := R.filter fun x => !slt x.1 k
theorem fromR_mem {R : List (ByteArray × Ce)} {k : ByteArray} {x : ByteArray × Ce} : x ∈ fromR R k ↔ x ∈ R ∧ ¬ kL x.1 k := by
  unfold fromR kL
  rw [List.mem_filter]
  simp
structure ScanL (pg : Nat → Pg) (n : Nat) (ow : Nat → Option Int) (sn : Int) (l : Nat) (k : ByteArray) (L : List Nat) (F : List (ByteArray × Ce)) (off : Nat → Nat) : Prop where
  head : L.getD 0 0 = l
  pos : 0 < L.length
  few : L.length ≤ 1022
  pgs : ∀ q, q < L.length → PgF pg n ow sn (L.getD q 0) ∧ (pg (L.getD q 0)).l = 0 ∧ (pg (L.getD q 0)).n = ((L.getD (q + 1) 0 : Nat) : Int)
  ne : ∀ q, q < L.length → L.getD q 0 ≠ 0
  off0 : off 0 = 0
  offn : ∀ q, q < L.length → off (q + 1) + (if q = 0 then fAt (pg l) k else 0) = off q + cnt (pg (L.getD q 0)).c
  all : off L.length = F.length
  at_ : ∀ q i, q < L.length → (if q = 0 then fAt (pg l) k else 0) ≤ i → i < cnt (pg (L.getD q 0)).c → ∃ x, F[off q + (i - (if q = 0 then fAt (pg l) k else 0))]? = some x ∧ x.2 = (pg (L.getD q 0)).c i
theorem Ix.scan (h : Ix pg n ow sn rt H lf ids R ff) (k : ByteArray) : ∃ L off, ScanL pg n ow sn (dn pg k rt H) k L (fromR R k) off := by
  obtain ⟨u, v, e1, e2, hA, hB⟩ := h.leaf k
  obtain ⟨-, hm, -⟩ := h.at_ k H (Nat.le_refl _)
  have hp := h.pgs _ hm
  have la := leaf_at hp.nd k
  generalize hl : dn pg k rt H = l at *
  have inL : ∀ i, i ∈ l :: v → i ∈ lf := fun i hi => by
    rw [e1]
    rcases List.mem_cons.1 hi with rfl | hi <;> simp [*]
  have pgL : ∀ q, q < (l :: v).length → (l :: v).getD q 0 ∈ l :: v := fun q hq => by
    rw [List.getD_eq_getElem?_getD, List.getElem?_eq_getElem hq]
    exact List.getElem_mem hq
  have ch : Chn (fun i => (pg i).n.toNat) (l :: v) := by
    have := h.ch
    rw [e1, List.append_assoc] at this
    exact Chn.drop u this
  -- the segments
  obtain ⟨s0, hs0⟩ : ∃ s0, s0 = rowsF (cnt (pg l).c - fAt (pg l) k) (fun q => ((pg l).c (fAt (pg l) k + q)).key) (fun q => (pg l).c (fAt (pg l) k + q)) := ⟨_, rfl⟩
  obtain ⟨Ls, hLs⟩ : ∃ Ls, Ls = s0 :: v.map fun i => (ndOf (pg i)).rows := ⟨_, rfl⟩
  have hF : fromR R k = Ls.flatten := by
    have hrow : (ndOf (pg l)).rows = rowsF (fAt (pg l) k) (fun q => ((pg l).c q).key) (pg l).c ++ s0 := by
      rw [rows_eq, hs0, ← rowsF_add, show fAt (pg l) k + (cnt (pg l).c - fAt (pg l) k) = cnt (pg l).c by have := fAt_le (pg l) k; omega]
    rw [e2, hrow, hLs, List.flatten_cons]
    unfold fromR
    rw [← List.append_assoc, List.append_assoc, List.filter_append, List.filter_eq_nil_iff.2, List.nil_append, List.filter_eq_self.2, List.flatMap_def]
    · intro x hx
      rcases List.mem_append.1 hx with hx | hx
      · rw [hs0] at hx
        obtain ⟨q, hq, rfl⟩ := rowsF_mem.1 hx
        have h3 := la.2.2 (by show fAt (pg l) k < cnt (pg l).c; omega)
        have : ¬ kL ((pg l).c (fAt (pg l) k + q)).key k := fun hlt => by
          by_cases e : q = 0
          · subst e; exact h3 hlt
          · exact h3 (kOrd.tr _ _ _ (nd_so hp.nd (fAt (pg l) k) (fAt (pg l) k + q) (by omega) (by show _ < cnt (pg l).c; omega)) hlt)
        unfold kL at this
        simpa using this
      · have := kOrd.tr k x.1 k (hB x hx)
        have h4 : ¬ kL x.1 k := fun hlt => kOrd.irr _ (this hlt)
        unfold kL at h4
        simpa using h4
    · intro x hx
      have h5 : kL x.1 k := by
        rcases List.mem_append.1 hx with hx | hx
        · exact hA x hx
        · obtain ⟨q, hq, rfl⟩ := rowsF_mem.1 hx
          exact la.2.1 q hq
      unfold kL at h5
      simp [h5]
  have hlen : Ls.length = (l :: v).length := by rw [hLs]; simp
  have seg : ∀ q (hq : q < Ls.length), (Ls[q]).length + (if q = 0 then fAt (pg l) k else 0) = cnt (pg ((l :: v).getD q 0)).c ∧ ∀ i (hi : i < (Ls[q]).length), ((Ls[q])[i]).2 = (pg ((l :: v).getD q 0)).c (i + (if q = 0 then fAt (pg l) k else 0)) := by
    subst hLs
    intro q hq
    cases q with
    | zero =>
      subst hs0
      refine ⟨?_, fun i hi => ?_⟩
      · show (rowsF _ _ _).length + fAt (pg l) k = cnt (pg l).c
        unfold rowsF
        have := fAt_le (pg l) k
        simp; omega
      · show ((rowsF (cnt (pg l).c - fAt (pg l) k) (fun q => ((pg l).c (fAt (pg l) k + q)).key) (fun q => (pg l).c (fAt (pg l) k + q)))[i]'hi).2 = (pg l).c (i + fAt (pg l) k)
        unfold rowsF
        simp [Nat.add_comm]
    | succ q =>
      have hq2 : q < v.length := by simpa using hq
      have e5 : (l :: v).getD (q + 1) 0 = v[q]'hq2 := by rw [List.getD_eq_getElem?_getD, List.getElem?_cons_succ, List.getElem?_eq_getElem hq2]; rfl
      have e6 : (s0 :: v.map fun i => (ndOf (pg i)).rows)[q + 1]'hq = (ndOf (pg (v[q]'hq2))).rows := by simp
      refine ⟨?_, fun i hi => ?_⟩
      · rw [e5, e6, rows_eq]
        unfold rowsF
        rw [List.length_map, List.length_range]
        rfl
      · have : ∀ (X Y : List (ByteArray × Ce)) (e : X = Y) (hX : i < X.length), (X[i]'hX).2 = (Y[i]'(e ▸ hX)).2 := fun X Y e hX => by subst e; rfl
        rw [this _ _ e6 hi, e5]
        show ((rowsF (cnt (pg (v[q]'hq2)).c) (fun j => ((pg (v[q]'hq2)).c j).key) (pg (v[q]'hq2)).c)[i]'(by have := hi; rw [e6, rows_eq] at this; exact this)).2 = _
        unfold rowsF
        simp
  refine ⟨l :: v, offS Ls, ⟨rfl, by simp, ?_, fun q hq => ?_, fun q hq => ?_, rfl, fun q hq => ?_, ?_, fun q i hq h1 h2 => ?_⟩⟩
  · have h5 : (l :: v).length ≤ lf.length := by rw [e1]; simp
    have h6 := h.tr.lf_sub.length_le
    have h7 := h.len
    have h8 := h.hn
    omega
  · have hin := inL _ (pgL q hq)
    obtain ⟨h5, h6⟩ := h.lf_mem hin
    refine ⟨h.pgs _ h5, h6, ?_⟩
    have := ch.at q hq
    have h0 := (h.pgs _ h5).ok.1
    unfold Pg.head at h0
    have h7 : (pg ((l :: v).getD q 0)).n.toNat = (l :: v).getD (q + 1) 0 := this
    omega
  · have := (h.pgs _ (h.lf_mem (inL _ (pgL q hq))).1).two
    omega
  · have hq' : q < Ls.length := by rw [hlen]; exact hq
    rw [offS_succ Ls q hq']
    have := (seg q hq').1
    omega
  · rw [hF, ← hlen]; exact offS_all Ls
  · have hq' : q < Ls.length := by rw [hlen]; exact hq
    obtain ⟨g1, g2⟩ := seg q hq'
    have hi : i - (if q = 0 then fAt (pg l) k else 0) < (Ls[q]).length := by omega
    refine ⟨_, by rw [hF]; exact offS_at Ls q hq' _ hi, ?_⟩
    rw [g2 _ hi]
    congr 1
    omega
end
end Go.Proofs.YtaiiimlmkigajaaGreat
namespace Go.Proofs.YtaiiimlmkigajaaGreat
open Go.RowKit Go.Maps

set_option maxRecDepth 100000 in
set_option maxHeartbeats 8000000 in
theorem scan_any {w : World} {B g b gs r N M n : Nat} {und pg : Nat → Pg} {st : Nat → Int} {kd rt : Nat → Nat} {ow : Nat → Option Int} {sn H : Nat} {lf ids : List Nat} {R : List (ByteArray × Ce)} {ff : Prop} (hn : n ≤ N) (ht : Tv pg n st kd rt ow sn H lf ids R ff) (k : ByteArray) (fk : Nat) (cap : Array Value)
    (eg : ∀ args w, (callFunc fk args).run Tryz.prog w = .ok (.enter fk args) w)
    (V : Nat → World → Prop) (D : Nat → World → Prop)
    (hsv : ∀ i w', V i w' → SV w' B g b gs r N M und pg)
    (hk : ∀ i w' w'', V i w' → Below w'.heap.size w' w'' → V i w'')
    (hv : ∀ (t : Nat) (x : ByteArray × Ce) (w' : World), (fromR R k)[t]? = some x → V t w' → Calls Tryz.prog fk (#[.agg #[.int .i64 x.2.st, .string x.2.d]] ++ cap) w' fun e w'' => ((e = .returned (.bool false) ∧ V (t + 1) w'') ∨ (e = .returned (.bool true) ∧ D t w'')) ∧ (∀ q cs, w.heap.size ≤ q → Bk w' q 98 cs → Bk w'' q 98 cs))
    (hrow : ∀ i w' q cs ds, V i w' → w.heap.size ≤ q → Bk w' q 98 ds → V i (w'.setRow q cs))
    (hsz : ∀ i w', V i w' → w.heap.size ≤ w'.heap.size) (h0 : V 0 w) :
    Calls Tryz.prog 55 #[.pointer (some ⟨g, 0, none⟩), .int .i64 sn, .string k, .func (.func fk) #[] cap] w fun e w' => e = .returned (.int .i64 0) ∧ (V (fromR R k).length w' ∨ ∃ t, t < (fromR R k).length ∧ D t w') := by
  have HSV := Lib.hid hsv; have HK := Lib.hid hk; have V0 := Lib.hid h0; have SZ := Lib.hid hsz; have HN := Lib.hid hn; have HB := Lib.hid hrow
  have CR := Lib.hid (fun (w' : World) i (h : V i w') => root_any (hsv i w' h) ht false)
  have CD := Lib.hid (fun (w' : World) i (h : V i w') => tdown_any (hsv i w' h) hn ht.ix k)
  have H9 := Lib.hid ht.ix.high
  obtain ⟨L, off, hS⟩ := ht.ix.scan k
  have HS := Lib.hid hS
  have OKL := Lib.hid (fun q hq => ((hS.pgs q hq).1.ok))
  have CL := Lib.hid (fun (w' : World) i (h : V i w') q (hq : q < L.length) => load_any (hsv i w' h) (L.getD q 0) sn (by have := (hS.pgs q hq).1.lt; omega) (hS.pgs q hq).1.ok (hS.pgs q hq).1.nd (hS.pgs q hq).1.s)
  have CC := Lib.hid (fun (w' : World) q (hq : q < L.length) => ncount_any (pg (L.getD q 0)) w')
  generalize hrt : rt (sn - 1) = rr at *
  have AT := Lib.hid (pathL_at pg k rr (Nat.le_refl H))
  have LL := Lib.hid (pathL_len pg k rr H)
  generalize hp : pathL pg k rr H = P at *
  generalize hl : dn pg k rr H = l at *
  have OK := Lib.hid (show (pg l).ok from by have := OKL.out 0 hS.pos; rw [hS.head] at this; exact this)
  have CF := Lib.hid (fun w' => find_any (pg l) k w' (ok_sz OK.out))
  have FLE := Lib.hid (fAt_le (pg l) k)
  have HEAD := Lib.hid hS.head
  obtain ⟨fi, hfi⟩ : ∃ fi, fi = fAt (pg l) k := ⟨_, rfl⟩
  have FI := Lib.hid hfi
  have HV := Lib.hid (fun (q i : Nat) (hq : q < L.length) (h1 : (if q = 0 then fi else 0) ≤ i) (h2 : i < cnt (pg (L.getD q 0)).c) (w' : World) (hvv : V (off q + (i - (if q = 0 then fi else 0))) w') =>
    show Calls Tryz.prog fk (#[.agg #[.int .i64 ((pg (L.getD q 0)).c i).st, .string ((pg (L.getD q 0)).c i).d]] ++ cap) w' fun e w'' => ((e = .returned (.bool false) ∧ V (off q + (i + 1 - (if q = 0 then fi else 0))) w'') ∨ (e = .returned (.bool true) ∧ ∃ t, t < (fromR R k).length ∧ D t w'')) ∧ (∀ q cs, w.heap.size ≤ q → Bk w' q 98 cs → Bk w'' q 98 cs) from by
      rw [hfi] at h1 hvv ⊢
      obtain ⟨x, hx1, hx2⟩ := hS.at_ q i hq h1 h2
      have := hv _ x w' hx1 hvv
      rw [hx2] at this
      refine this.mono ?_
      rintro e w'' ⟨⟨rfl, h3⟩ | ⟨rfl, h3⟩, h4⟩
      · exact ⟨.inl ⟨rfl, by rw [show i + 1 - (if q = 0 then fAt (pg l) k else 0) = i - (if q = 0 then fAt (pg l) k else 0) + 1 by omega, ← Nat.add_assoc]; exact h3⟩, h4⟩
      · exact ⟨.inr ⟨rfl, _, (List.getElem?_eq_some_iff.1 hx1).1, h3⟩, h4⟩)
  obtain ⟨m, hm⟩ : ∃ m : Im, m = ⟨(l : Nat), pg l⟩ := ⟨_, rfl⟩
  rw [← hm] at AT
  have MP := Lib.hid (show m.p = pg l by rw [hm])
  have OFF0 := Lib.hid hS.off0
  have OFFN := Lib.hid (fun q (hq : q < L.length) => show off (q + 1) + (if q = 0 then fi else 0) = off q + cnt (pg (L.getD q 0)).c from by rw [hfi]; exact hS.offn q hq)
  have OALL := Lib.hid hS.all
  have LP := Lib.hid (And.intro hS.pos hS.few)
  have PGS := Lib.hid hS.pgs
  have LNE := Lib.hid hS.ne
  clear hn ht hsv hk hv hrow hsz h0 hrt hp hl hfi hm hS HS
  go_enter Tryz.func55, Tryz.ntmps55
  go_wp2_with fail
  refine (CR.out _ _ V0.out).mono ?_
  rintro e w1 ⟨rfl, hb⟩
  have V1 := Lib.hid (HK.out 0 _ _ V0.out hb)
  clear hb V0 CR
  as_aux_lemma =>
    go_wp2_with fail
    refine (CD.out _ _ V1.out).mono ?_
    rintro e w2 ⟨v, rfl, hP, hb⟩
    have P2 := Lib.hid hP; have V2 := Lib.hid (HK.out 0 _ _ V1.out hb)
    have Z2 := Lib.hid (SZ.out 0 _ V2.out)
    clear hP hb V1 CD
    obtain ⟨g2, cap2, rfl, h1, h2, h3⟩ := pth_at P2.out AT.out
    have RG := Lib.hid h3
    rw [LL.out]
    have K3 := Lib.hid (Bk.new w2 98 (pg l).cs)
    have V3 := Lib.hid (HK.out 0 _ _ V2.out ((Below.refl _ w2).alloc (Nat.le_refl _) (.cells (pg l).cs 98)))
    obtain ⟨Q, hQ⟩ : ∃ Q, Q = w2.heap.size := ⟨_, rfl⟩
    have QZ := Lib.hid (show w.heap.size ≤ Q by rw [hQ]; exact Z2.out)
    rw [← hQ] at K3
    clear h1 h2 h3 P2 Z2
    have hH := H9.out
    have i1 : wrap64 (((H + 1 : Nat) : Int) - 1) = (H : Int) := by unfold wrap64; omega
    have i2 : (H : Int) < ((H + 1 : Nat) : Int) := by omega
    have i3 : (0 : Int) ≤ (H : Int) := by omega
    have i4 : (((H + 1 : Nat) : Int) - 1) = (H : Int) := by omega
    as_aux_lemma =>
      go_upto_region 8 with (first | (refine load_pth_page rfl _ rfl g2 m H rfl RG.out ?_; rw [MP.out]) | (refine store_page_new rfl _ _ rfl (pg l) rfl rfl ?_; rw [← hQ]; clear hQ; generalize w2.alloc (.cells (pg l).cs 98) = w3 at *))
      clear RG V2 i1 i2 i3 i4 hH
      as_aux_lemma =>
        go_wp2_with (refine load_page rfl _ rfl Q (pg l) rfl K3.out ?_)
        refine (CF.out _).mono ?_
        rintro e w4 ⟨j, fb, rfl, ⟨rfl, rfl⟩, hb⟩
        have K4 := Lib.hid (show Bk w4 Q 98 (pg (L.getD 0 0)).cs from by rw [HEAD.out]; exact K3.out.kept hb); have V4 := Lib.hid (HK.out 0 _ _ V3.out hb)
        rw [← FI.out]
        generalize fThere (pg l) k = fb at *
        clear hb K3 V3 CF
        as_aux_lemma =>
          go_wp2_with fail
          go_loopw [13, 48] (fun i c wr => ∃ q : Nat, q < L.length ∧ c = .int .i64 q ∧ i = .int .i64 ((if q = 0 then fi else 0 : Nat) : Int) ∧ Bk wr Q 98 (pg (L.getD q 0)).cs ∧ V (off q) wr) (fun _ c _ => 1024 - (RowKit.intOf c).toNat)
          case atStart => exact ⟨0, LP.out.1, rfl, rfl, K4.out, by rw [OFF0.out]; exact V4.out⟩
          case round =>
            obtain ⟨q, hq, rfl, rfl, hK, hV⟩ := hrel
            have KQ := Lib.hid hK; have VQ := Lib.hid hV
            have HQ := Lib.hid hq
            have q1024 : (q : Int) < 1024 := by have := LP.out; omega
            obtain ⟨p, hpp⟩ : ∃ p, p = pg (L.getD q 0) := ⟨_, rfl⟩
            have CC1 := Lib.hid (fun w' => CC.out w' q hq)
            have HV1 := Lib.hid (fun i => HV.out q i hq)
            have OFF1 := OFFN.out q hq
            have PG1 := PGS.out q hq
            have POK := OKL.out q hq
            rw [← hpp] at CC1 HV1 OFF1 POK KQ
            have PN : p.n = ((L.getD (q + 1) 0 : Nat) : Int) := by rw [hpp]; exact PG1.2.2
            have PL : p.l = 0 := by rw [hpp]; exact PG1.2.1
            have i0le : (if q = 0 then fi else 0) ≤ cnt p.c := by
              split
              · rename_i e; rw [hpp, e, HEAD.out, FI.out]; exact FLE.out
              · omega
            generalize hi0 : (if q = 0 then fi else 0) = i0 at *
            have POKH := Lib.hid POK; have PNH := Lib.hid PN; have OFFH := Lib.hid OFF1; have I0 := Lib.hid i0le
            have C6 := Lib.hid (cnt_le p.c)
            clear hq hK hV K4 V4 hpp PG1 POK PN OFF1 i0le PL
            as_aux_lemma =>
              go_wp2_with fail
              go_loopw [13] (fun i wr => ∃ j : Nat, i0 ≤ j ∧ j ≤ cnt p.c ∧ i = .int .i64 j ∧ Bk wr Q 98 p.cs ∧ V (off q + (j - i0)) wr) (fun i _ => 8 - (RowKit.intOf i).toNat)
              case atStart => exact ⟨i0, Nat.le_refl _, I0.out, rfl, KQ.out, by rw [Nat.sub_self]; exact VQ.out⟩
              case round =>
                obtain ⟨j, hj1, hj2, rfl, hK, hV⟩ := hrel
                have KJ := Lib.hid hK; have VJ := Lib.hid hV; have J1 := Lib.hid hj1; have J2 := Lib.hid hj2
                clear hj1 hj2 hK hV KQ VQ
                as_aux_lemma =>
                  go_wp2_with (refine load_page rfl _ rfl Q p rfl KJ.out ?_)
                  refine (CC1.out _).mono ?_
                  rintro e w5 ⟨rfl, hb⟩
                  have K5 := Lib.hid (KJ.out.kept hb); have V5 := Lib.hid (HK.out _ _ _ VJ.out hb)
                  clear hb KJ VJ
                  by_cases hlt : j < cnt p.c
                  · have HLT := Lib.hid hlt
                    have jlt : (j : Int) < ((cnt p.c : Nat) : Int) := by omega
                    have j6 : (j : Int) < 6 := by have := C6.out; omega
                    have J6 := Lib.hid (show j < 6 by have := C6.out; omega)
                    have CV := Lib.hid (HV1.out j J1.out hlt w5 V5.out)
                    clear hlt
                    as_aux_lemma =>
                      go_wp2_with (refine load_cell_at rfl _ rfl Q p j J6.out rfl K5.out ?_)
                      refine CV.out.mono ?_
                      rintro e w6 ⟨⟨rfl, hv⟩ | ⟨rfl, hd⟩, hpg⟩
                      · have K6 := Lib.hid (hpg Q _ QZ.out K5.out)
                        have V6 := Lib.hid hv
                        clear hv hpg K5 V5 CV
                        as_aux_lemma =>
                          go_wp2
                          go_roundw
                          case rel => exact ⟨j + 1, by have := J1.out; omega, by have := HLT.out; omega, by go_num, K6.out, V6.out⟩
                          case measure => have := J6.out; simp [RowKit.intOf]; omega
                      · have D6 := Lib.hid hd
                        clear hd hpg K5 V5 CV
                        as_aux_lemma =>
                          go_wp2
                          go_ret
                          exact ⟨rfl, .inr D6.out⟩
                  · have EJ : j = cnt p.c := by have := J2.out; omega
                    have nlt : ¬ (j : Int) < ((cnt p.c : Nat) : Int) := by omega
                    have x3 : w5.cell? ⟨Q, 3, none⟩ = some (.int .i64 p.n) := K5.out.cell 3
                    have OFJ := Lib.hid (show off q + (j - i0) = off (q + 1) from by have := OFFH.out; have := I0.out; omega)
                    rw [OFJ.out] at V5
                    rw [PNH.out] at x3
                    clear hlt EJ
                    by_cases hl : q + 1 < L.length
                    · have HL := Lib.hid hl
                      obtain ⟨nx, hnx⟩ : ∃ nx, nx = L.getD (q + 1) 0 := ⟨_, rfl⟩
                      have NX := Lib.hid hnx
                      have n0 : ¬ nx = 0 := by rw [hnx]; exact LNE.out (q + 1) hl
                      have n1 : ((nx : Int) == 0) = false := by simp; omega
                      have CL1 := Lib.hid (CL.out w5 _ V5.out (q + 1) hl)
                      obtain ⟨p2, hp2⟩ : ∃ p2, p2 = pg (L.getD (q + 1) 0) := ⟨_, rfl⟩
                      have P2E := Lib.hid hp2
                      have PL2 := (PGS.out (q + 1) hl).2.1
                      rw [← hp2] at CL1 PL2
                      rw [← hnx] at CL1 x3
                      clear hl hnx hp2
                      as_aux_lemma =>
                        go_wp2_with fail
                        refine CL1.out.mono ?_
                        rintro e w6 ⟨rfl, hb⟩
                        have K6 := Lib.hid (K5.out.kept hb); have V6 := Lib.hid (HK.out _ _ _ V5.out hb)
                        clear hb K5 V5 CL1 x3
                        have K7 := Lib.hid (row_bk (p := p2) K6.out)
                        have V7 := Lib.hid (HB.out _ _ _ p2.cs _ V6.out QZ.out K6.out)
                        as_aux_lemma =>
                          go_upto_region 18 with (refine store_page rfl _ _ rfl Q p2 p rfl rfl K6.out ?_; generalize w6.setRow Q p2.cs = w7 at *)
                          clear K6 V6
                          have x1 : w7.cell? ⟨Q, 1, none⟩ = some (.int .i64 0) := by rw [K7.out.cell]; show some (Value.int .i64 p2.l) = _; rw [PL2]
                          go_wp2
                          go_roundw
                          case rel => exact ⟨q + 1, HL.out, by go_num, by rw [if_neg (by omega)]; rfl, by rw [← P2E.out]; exact K7.out, V7.out⟩
                          case measure => have := HL.out; have := LP.out; simp [RowKit.intOf]; omega
                    · have EL : q + 1 = L.length := by have := HQ.out; omega
                      have n0 : L.getD (q + 1) 0 = 0 := by rw [List.getD_eq_getElem?_getD, List.getElem?_eq_none (by omega)]; rfl
                      rw [n0, show ((0 : Nat) : Int) = 0 from rfl] at x3
                      rw [EL] at V5
                      clear hl EL n0
                      as_aux_lemma =>
                        go_wp2
                        go_ret
                        exact ⟨rfl, .inl (by rw [← OALL.out]; exact V5.out)⟩
end Go.Proofs.YtaiiimlmkigajaaGreat
namespace Go.Proofs.YtaiiimlmkigajaaGreat
open Go.RowKit Go.Maps

/-- Keys and values, as a range tells them. -/
abbrev Kv := ByteArray × ByteArray
def encK (x : Kv) : List Value := [.string x.1, .int .i64 0, .string x.2]
def kvL (l : List Kv) : List Value := l.flatMap encK
theorem kvL_app (l : List Kv) (x : Kv) : kvL (l ++ [x]) = kvL l ++ encK x := by unfold kvL; simp
theorem Tryz.infoK83 : (Tryz.prog.info? 83).map (fun i => (i.zero, i.size, i.bytes)) = some (some (.agg #[.string ⟨#[]⟩, .int .i64 0, .string ⟨#[]⟩]), 3, 40) := by kernel_rfl
def KOwn (w : World) (base : Nat) (v : Value) (l : List Kv) : Prop := w.ownsRow base 83 3 v l.length (kvL l)
/-- What a visit adds. -/
def addK (l : List Kv) (most : Nat) (c : Ce) : List Kv := if l.length < most ∧ c.st = 1 then l ++ [(c.key, c.rst)] else l
/-- What stands but for a block of pairs. -/
def Fk (w w' : World) (AB : Nat) : Prop := ∀ q t cs, Bk w q t cs → q ≠ AB → t ≠ 83 → Bk w' q t cs
section
variable {ops : Array Oper} {rest : List Oper} {o : Oper} {a : Act} {w : World} {Q : Exit → Act → World → Prop}
theorem build_kv (hg : o.guard = none) (x y : Operand) (ho : o.op = .build 83 #[(0, x), (2, y)]) (k v : ByteArray) (hx : a.eval x = .string k) (hy : a.eval y = .string v) (h : wpList Tryz.prog ops Q rest (a.put o.dst (.agg (encK (k, v)).toArray)) w) : wpList Tryz.prog ops Q (o :: rest) a w := by
  refine wpList_plain hg fun K' hK' => ?_
  have hb : (Instr.build 83 #[(0, .string k), (2, .string v)]).run Tryz.prog w = .ok (.agg (encK (k, v)).toArray) w := by kernel_rfl
  unfold Oper.wp execOp
  simp only [ho, Sem.run_bind, Sem.run_pure, Result.andThen_ok, List.map_toArray, List.map_cons, List.map_nil, hx, hy, hb]
  exact hK' _ _ h
theorem slice1_kv (hg : o.guard = none) (x : Operand) (ho : o.op = .buildSlice 54 1 #[(0, x)]) (i : Kv)
    (hx : a.eval x = .agg (encK i).toArray) (h : wpList Tryz.prog ops Q rest (a.put o.dst (.slice (some ⟨w.heap.size, 0, none⟩) 1 1)) (w.alloc (.cells (encK i).toArray 83))) : wpList Tryz.prog ops Q (o :: rest) a w := by
  obtain ⟨i0, hi0, hz0, hz1, hz2⟩ := info_parts Tryz.infoK83
  refine wpList_buildSlice hg 54 83 1 #[(0, x)] ho (encK i).toArray i0 _ Tryz.underlying54 hi0 hz0 (by rw [hz1]; decide) (by rw [hz1]; decide) ?_ h
  rw [hz1]
  simp only [List.map_toArray, List.map_cons, List.map_nil, hx]
  kernel_rfl
end
set_option maxRecDepth 100000 in
set_option maxHeartbeats 8000000 in
theorem visit_range (c : Ce) (hc : c.d.size ≤ maxLen) (l : List Kv) (most : Nat) (hl : l.length ≤ 64) (hm : most ≤ 64) (base AB MB : Nat) (x : Value) (w : World) (hA : Bk w AB 54 #[x]) (hM : Bk w MB 3 #[.int .i64 most]) (hO : KOwn w (AB + 1) x l) (hba : base ≤ AB) :
    Calls Tryz.prog 56 #[.agg #[.int .i64 c.st, .string c.d], .pointer (some ⟨AB, 0, none⟩), .pointer (some ⟨MB, 0, none⟩)] w fun e w' => e = .returned (.bool (decide ((addK l most c).length = most))) ∧ ∃ x', Bk w' AB 54 #[x'] ∧ KOwn w' (AB + 1) x' (addK l most c) ∧ Fk w w' AB ∧ Below base w w' := by
  have K1 := Lib.hid (Bk.new w 74 #[.int .i64 c.st, .string c.d])
  have A1 := Lib.hid (hA.alloc (.cells #[.int .i64 c.st, .string c.d] 74))
  have M1 := Lib.hid (hM.alloc (.cells #[.int .i64 c.st, .string c.d] 74))
  have O1 := Lib.hid (World.ownsRow.alloc (show w.ownsRow (AB + 1) 83 3 x l.length (kvL l) from hO) (.cells #[.int .i64 c.st, .string c.d] 74))
  have F1 := Lib.hid (show Fk w (w.alloc (.cells #[.int .i64 c.st, .string c.d] 74)) AB from fun q t cs hk _ _ => hk.alloc _)
  have LB := Lib.hid (show base ≤ w.heap.size by have := hA.lt; omega)
  have B1 := Lib.hid ((Below.refl base w).alloc LB.out (.cells #[.int .i64 c.st, .string c.d] 74))
  have AM := Lib.hid (show AB ≠ MB from Bk.ne_ hA hM (by decide))
  have HL := Lib.hid hl; have HBA := Lib.hid hba; have HMM := Lib.hid hm
  have CK := Lib.hid (fun w' => key_any c w' hc)
  obtain ⟨xa, xc, hxe⟩ := ow_slice (show w.ownsRow (AB + 1) 83 3 x l.length (kvL l) from hO)
  subst hxe
  obtain ⟨ln, hln⟩ : ∃ ln, ln = l.length := ⟨_, rfl⟩
  have LN := Lib.hid hln
  have ADD := Lib.hid (show addK l most c = if ln < most ∧ c.st = 1 then l ++ [(c.key, c.rst)] else l from by rw [hln]; rfl)
  generalize addK l most c = l' at *
  rw [← hln] at A1 O1
  obtain ⟨ck, hck⟩ : ∃ ck, ck = c.key := ⟨_, rfl⟩
  obtain ⟨cr, hcr⟩ : ∃ cr, cr = c.rst := ⟨_, rfl⟩
  rw [← hck, ← hcr] at CK ADD
  have lnb : ln ≤ 64 := by omega
  clear hA hM hO hba hl hm hc hck hcr hln
  go_enter Tryz.func56, Tryz.ntmps56
  go_upto_region 1 with fail
  obtain ⟨G, hG⟩ : ∃ G, G = w.heap.size := ⟨_, rfl⟩
  rw [← hG] at K1 ⊢
  obtain ⟨w1, hw1⟩ : ∃ w1, w1 = w.alloc (.cells #[.int .i64 c.st, .string c.d] 74) := ⟨_, rfl⟩
  rw [← hw1] at K1 A1 M1 O1 F1 B1 ⊢
  clear hw1 hG
  have a0 : w1.cell? ⟨AB, 0, none⟩ = some (.slice xa ln xc) := A1.out.cell 0
  have m0 : w1.cell? ⟨MB, 0, none⟩ = some (.int .i64 most) := M1.out.cell 0
  have g0 : w1.cell? ⟨G, 0, none⟩ = some (.int .i64 c.st) := K1.out.cell 0
  by_cases h1 : ln < most
  · have h1i : (ln : Int) < (most : Int) := by omega
    by_cases h2 : c.st = 1
    · have h2b : (c.st == 1) = true := by simp [h2]
      have L' := Lib.hid (show l' = l ++ [(ck, cr)] from by rw [ADD.out]; exact if_pos ⟨h1, h2⟩)
      clear ADD
      unfold Ce.v at CK
      rw [h2] at CK K1
      obtain ⟨i0, hi0, hz0, hz1, hz2⟩ := info_parts Tryz.infoK83
      as_aux_lemma =>
        go_wp2_with (refine load_ce rfl _ rfl G 1 c.d rfl K1.out ?_)
        refine (CK.out _).mono ?_
        rintro e w2 ⟨rfl, hb⟩
        have A2 := Lib.hid (A1.out.kept hb); have M2 := Lib.hid (M1.out.kept hb)
        have O2 := Lib.hid (ow_kept O1.out hb); have F2 := Lib.hid (show Fk w w2 AB from fun q t cs hk h1 h2 => (F1.out q t cs hk h1 h2).kept hb)
        have B2 := Lib.hid (below_then B1.out hb (Nat.le_trans LB.out B1.out.size))
        clear hb A1 M1 O1 F1 B1 K1 CK a0 m0 g0 h2 h2b h1i
        have A3 := Lib.hid (A2.out.alloc (.cells (encK (ck, cr)).toArray 83))
        have O3 := Lib.hid (World.ownsRow.alloc O2.out (.cells (encK (ck, cr)).toArray 83))
        have F3 := Lib.hid (show Fk w (w2.alloc (.cells (encK (ck, cr)).toArray 83)) AB from fun q t cs hk h1 h2 => (F2.out q t cs hk h1 h2).alloc _)
        have B3 := Lib.hid (B2.out.alloc (Nat.le_trans LB.out B2.out.size) (.cells (encK (ck, cr)).toArray 83))
        have a0 : w2.cell? ⟨AB, 0, none⟩ = some (.slice xa ln xc) := A2.out.cell 0
        as_aux_lemma =>
          go_upto_region 4 with (first | (refine build_kv rfl _ _ rfl ck cr rfl rfl ?_) | (refine slice1_kv rfl _ rfl (ck, cr) rfl ?_) | (at_builtin; refine wpList_append_lies _ rfl _ _ 54 rfl (AB + 1) 83 i0 (.agg #[.string ⟨#[]⟩, .int .i64 0, .string ⟨#[]⟩]) 3 40 Tryz.underlying54 hi0 hz0 hz1 hz2 rfl (by decide) (.slice xa ln xc) ln (kvL l) rfl O3.out ⟨w2.heap.size, 0, none⟩ 1 1 (encK (ck, cr)) rfl rfl ?qr2 ?qr3 (by decide) ?qr4 ?qr5 ?qr6 _ rfl ?_))
          case qr2 =>
            intro y z hz
            rw [Addr.add_lit, Nat.zero_add]
            refine Eq.trans ((Bk.new w2 83 (encK (ck, cr)).toArray).cell y) ?_
            simpa using hz
          case qr3 => simp [encK, Value.oneCell']
          case qr4 => unfold maxLen; omega
          case qr5 => omega
          case qr6 => exact A3.out.lt
          intro g2 cap w4 k2 k3 k4 k5
          have hob : ∀ k, (Value.slice xa ln xc).ownBlock = some k → AB + 1 ≤ k ∧ ∃ cur, Bk (w2.alloc (.cells (encK (ck, cr)).toArray 83)) k 83 cur := fun k hk => ⟨(ow_blk O3.out hk).1, (ow_blk O3.out hk).2.2⟩
          have A4 := Lib.hid (show Bk w4 AB 54 #[.slice xa ln xc] from A3.out.grown k3 (fun e => by obtain ⟨h3, -⟩ := hob _ e.symm; omega))
          have M4 := Lib.hid (show Bk w4 MB 3 #[.int .i64 most] from (M2.out.alloc _).grown k3 (fun e => by obtain ⟨-, cur, hc⟩ := hob _ e.symm; exact Bk.ne_ (M2.out.alloc _) hc (by decide) rfl))
          have A5 := Lib.hid (A4.out.set 0 (.slice (some ⟨g2, 0, none⟩) (ln + 1) cap))
          have M5 := Lib.hid (M4.out.far (p := ⟨AB, 0, none⟩) (Ne.symm AM.out) (.slice (some ⟨g2, 0, none⟩) (ln + 1) cap))
          have F5 := Lib.hid (show Fk w (w4.setCell ⟨AB, 0, none⟩ (.slice (some ⟨g2, 0, none⟩) (ln + 1) cap)) AB from fun q t cs hk h1 h2 => ((F3.out q t cs hk h1 h2).grown k3 (fun e => by obtain ⟨-, cur, hc⟩ := hob _ e.symm; exact Bk.ne_ (F3.out q t cs hk h1 h2) hc h2 rfl)).far h1 _)
          have B5 := Lib.hid ((bl_grow B3.out k3 (fun k hk => by have := (hob k hk).1; have := HBA.out; omega) (Nat.le_trans LB.out B3.out.size)).setCell (p := ⟨AB, 0, none⟩) HBA.out (.slice (some ⟨g2, 0, none⟩) (ln + 1) cap))
          have O5 := Lib.hid (show KOwn (w4.setCell ⟨AB, 0, none⟩ (.slice (some ⟨g2, 0, none⟩) (ln + 1) cap)) (AB + 1) (.slice (some ⟨g2, 0, none⟩) (ln + 1) cap) l' from by
            unfold KOwn
            rw [L'.out, kvL_app, List.length_append, ← LN.out]
            exact ow_far k2 (p := ⟨AB, 0, none⟩) (Nat.lt_succ_self AB) _)
          have c4 : w4.cell? ⟨AB, 0, none⟩ = some (.slice xa ln xc) := A4.out.cell 0
          have f4 : w4.frozen? ⟨AB, 0, none⟩ = false := A4.out.fz 0
          have LL := Lib.hid (show l'.length = ln + 1 from by rw [L'.out, List.length_append, ← LN.out]; rfl)
          clear k2 k3 k4 k5 hob A2 M2 O2 F2 B2 A3 O3 F3 B3 a0 hi0 hz0 hz1 hz2 A4 M4
          go_upto_region 4 with fail
          generalize w4.setCell ⟨AB, 0, none⟩ (.slice (some ⟨g2, 0, none⟩) (ln + 1) cap) = w5 at *
          clear c4 f4
          have a0 : w5.cell? ⟨AB, 0, none⟩ = some (.slice (some ⟨g2, 0, none⟩) (ln + 1) cap) := A5.out.cell 0
          have m0 : w5.cell? ⟨MB, 0, none⟩ = some (.int .i64 most) := M5.out.cell 0
          by_cases h3 : ln + 1 = most
          · have DL := Lib.hid (show decide (l'.length = most) = true from decide_eq_true (by rw [LL.out]; exact h3))
            have eb : (((ln + 1 : Nat) : Int) == (most : Int)) = true := by simp; omega
            have eb2 : (((ln : Int) + 1) == (most : Int)) = true := by simp; omega
            clear h3
            as_aux_lemma =>
              go_wp2
              go_ret
              rw [DL.out]
              exact ⟨rfl, _, A5.out, O5.out, F5.out, B5.out⟩
          · have DL := Lib.hid (show decide (l'.length = most) = false from decide_eq_false (by rw [LL.out]; exact h3))
            have eb : (((ln + 1 : Nat) : Int) == (most : Int)) = false := by simp; omega
            have eb2 : (((ln : Int) + 1) == (most : Int)) = false := by simp; omega
            clear h3
            as_aux_lemma =>
              go_wp2
              go_ret
              rw [DL.out]
              exact ⟨rfl, _, A5.out, O5.out, F5.out, B5.out⟩
    · have h2b : (c.st == 1) = false := by simp [h2]
      have L' := Lib.hid (show l' = l from by rw [ADD.out]; exact if_neg (fun h => h2 h.2))
      have DL := Lib.hid (show decide (l'.length = most) = false from decide_eq_false (by rw [L'.out, ← LN.out]; omega))
      have eb : ((ln : Int) == (most : Int)) = false := by simp; omega
      clear ADD
      as_aux_lemma =>
        go_wp2
        go_ret
        rw [DL.out, L'.out]
        exact ⟨rfl, _, A1.out, (by unfold KOwn; rw [← LN.out]; exact O1.out), F1.out, B1.out⟩
  · have h1i : ¬ (ln : Int) < (most : Int) := by omega
    have h1d : decide (ln < most) = false := decide_eq_false h1
    have L' := Lib.hid (show l' = l from by rw [ADD.out]; exact if_neg (fun h => h1 h.1))
    clear ADD
    by_cases h3 : ln = most
    · have DL := Lib.hid (show decide (l'.length = most) = true from decide_eq_true (by rw [L'.out, ← LN.out]; exact h3))
      have eb : ((ln : Int) == (most : Int)) = true := by simp [h3]
      clear h3
      as_aux_lemma =>
        go_wp2
        go_ret
        rw [DL.out, L'.out]
        exact ⟨rfl, _, A1.out, (by unfold KOwn; rw [← LN.out]; exact O1.out), F1.out, B1.out⟩
    · have DL := Lib.hid (show decide (l'.length = most) = false from decide_eq_false (by rw [L'.out, ← LN.out]; exact h3))
      have eb : ((ln : Int) == (most : Int)) = false := by simp; omega
      clear h3
      as_aux_lemma =>
        go_wp2
        go_ret
        rw [DL.out, L'.out]
        exact ⟨rfl, _, A1.out, (by unfold KOwn; rw [← LN.out]; exact O1.out), F1.out, B1.out⟩
/-- The live keys from one on, so many at most. -/
def kvOf (F : List (ByteArray × Ce)) : List Kv := (F.filter fun x => decide (x.2.st = 1)).map fun x => (x.2.key, x.2.rst)
def rangeL (R : List (ByteArray × Ce)) (k : ByteArray) (most : Nat) : List Kv := (kvOf (fromR R k)).take most
theorem kvOf_app (F G : List (ByteArray × Ce)) : kvOf (F ++ G) = kvOf F ++ kvOf G := by unfold kvOf; rw [List.filter_append, List.map_append]
theorem addK_take (A : List Kv) (most : Nat) (x : ByteArray × Ce) : addK (A.take most) most x.2 = (A ++ kvOf [x]).take most := by
  unfold addK
  have hk : kvOf [x] = if x.2.st = 1 then [(x.2.key, x.2.rst)] else [] := by
    unfold kvOf
    by_cases h : x.2.st = 1 <;> simp [h]
  rw [hk]
  by_cases h1 : A.length < most
  · rw [List.take_of_length_le (Nat.le_of_lt h1)]
    by_cases h2 : x.2.st = 1
    · rw [if_pos ⟨h1, h2⟩, if_pos h2, List.take_of_length_le (by rw [List.length_append]; simp; omega)]
    · rw [if_neg (fun h => h2 h.2), if_neg h2, List.append_nil, List.take_of_length_le (Nat.le_of_lt h1)]
  · rw [if_neg (fun h => by have := h.1; rw [List.length_take] at this; omega), List.take_append_of_le_length (by omega)]
theorem take_full (F : List (ByteArray × Ce)) (t most : Nat) (h : ((kvOf (F.take t)).take most).length = most) : (kvOf (F.take t)).take most = (kvOf F).take most := by
  conv => rhs; rw [← List.take_append_drop t F, kvOf_app]
  rw [List.length_take] at h
  rw [List.take_append_of_le_length (by omega)]
def RangeP (w : World) (R : List (ByteArray × Ce)) (k : ByteArray) (most : Int) (e : Ending) (w' : World) : Prop :=
  (((8 < k.size ∨ most < 0 ∨ 64 < most) ∧ e = .returned (.tuple #[.slice none 0 0, .int .i64 1])) ∨ (¬ (8 < k.size ∨ most < 0 ∨ 64 < most) ∧ ∃ v, e = .returned (.tuple #[v, .int .i64 0]) ∧ KOwn w' w.heap.size v (rangeL R k most.toNat))) ∧ Below w.heap.size w w'
set_option maxRecDepth 100000 in
set_option maxHeartbeats 8000000 in
theorem trange_any {w : World} {B g b gs r N M n : Nat} {und pg : Nat → Pg} {st : Nat → Int} {kd rt : Nat → Nat} {ow : Nat → Option Int} {sn H : Nat} {lf ids : List Nat} {R : List (ByteArray × Ce)} {ff : Prop} (h : SV w B g b gs r N M und pg) (hn : n ≤ N) (ht : Tv pg n st kd rt ow sn H lf ids R ff) (k : ByteArray) (most : Int) :
    Calls Tryz.prog 34 #[.pointer (some ⟨g, 0, none⟩), .int .i64 sn, .string k, .int .i64 most] w (RangeP w R k most) := by
  have HV := Lib.hid h; have HN := Lib.hid hn; have HT := Lib.hid ht
  have BAD := Lib.hid (fun (w' : World) (hx : 8 < k.size ∨ most < 0 ∨ 64 < most) (hb : Below w.heap.size w w') => show RangeP w R k most (.returned (.tuple #[.slice none 0 0, .int .i64 1])) w' from ⟨.inl ⟨hx, rfl⟩, hb⟩)
  have YES := Lib.hid (fun (w' : World) (v : Value) (hx : ¬ (8 < k.size ∨ most < 0 ∨ 64 < most)) (ho : KOwn w' w.heap.size v (rangeL R k most.toNat)) (hb : Below w.heap.size w w') => show RangeP w R k most (.returned (.tuple #[v, .int .i64 0])) w' from ⟨.inr ⟨hx, v, rfl, ho⟩, hb⟩)
  have KM := Lib.hid (Bk.new w 3 #[.int .i64 most])
  have B1 := Lib.hid ((Below.refl w.heap.size w).alloc (Nat.le_refl _) (.cells #[.int .i64 most] 3))
  clear h hn ht
  go_enter Tryz.func34, Tryz.ntmps34
  go_upto_region 1 with fail
  obtain ⟨MB, hMB⟩ : ∃ MB, MB = w.heap.size := ⟨_, rfl⟩
  have MBE := Lib.hid hMB
  rw [← hMB] at KM ⊢
  obtain ⟨w1, hw1⟩ : ∃ w1, w1 = w.alloc (.cells #[.int .i64 most] 3) := ⟨_, rfl⟩
  rw [← hw1] at KM B1 ⊢
  clear hw1 hMB
  have m0 : w1.cell? ⟨MB, 0, none⟩ = some (.int .i64 most) := KM.out.cell 0
  by_cases c1 : 8 < k.size
  · have c1i : (8 : Int) < (k.size : Int) := by omega
    have BD := Lib.hid (BAD.out w1 (.inl c1) B1.out)
    clear YES BAD
    as_aux_lemma =>
      go_wp2
      refine bodyPost_ret (v := .tuple #[.slice none 0 0, .int .i64 1]) (by simp [results, Tryz.results34, go_sem]) rfl ?_
      exact BD.out
  have c1i : ¬ (8 : Int) < (k.size : Int) := by omega
  have c1d : decide (8 < k.size) = false := decide_eq_false c1
  by_cases c2 : most < 0
  · have BD := Lib.hid (BAD.out w1 (.inr (.inl c2)) B1.out)
    clear YES BAD
    as_aux_lemma =>
      go_wp2
      refine bodyPost_ret (v := .tuple #[.slice none 0 0, .int .i64 1]) (by simp [results, Tryz.results34, go_sem]) rfl ?_
      exact BD.out
  by_cases c3 : 64 < most
  · have BD := Lib.hid (BAD.out w1 (.inr (.inr c3)) B1.out)
    have c2d : decide (most < 0) = false := decide_eq_false c2
    clear YES BAD
    as_aux_lemma =>
      go_wp2
      refine bodyPost_ret (v := .tuple #[.slice none 0 0, .int .i64 1]) (by simp [results, Tryz.results34, go_sem]) rfl ?_
      exact BD.out
  have FIN := Lib.hid (fun w' v => YES.out w' v (fun hx => by rcases hx with hx | hx | hx <;> contradiction))
  obtain ⟨mm, rfl⟩ := Int.eq_ofNat_of_zero_le (show 0 ≤ most by omega)
  rw [Int.toNat_natCast] at FIN
  have M64 := Lib.hid (show mm ≤ 64 by omega)
  have c2i : ¬ (mm : Int) < 0 := c2
  have c2d : decide ((mm : Int) < 0) = false := decide_eq_false c2
  have c3d : decide (64 < mm) = false := decide_eq_false (by omega)
  have K2 := Lib.hid (KM.out.alloc (.cells #[.slice none 0 0] 54))
  have A2 := Lib.hid (Bk.new w1 54 #[.slice none 0 0])
  have B2 := Lib.hid (B1.out.alloc B1.out.size (.cells #[.slice none 0 0] 54))
  clear YES BAD
  as_aux_lemma =>
    go_upto_region 4 with fail
    change Code.wp _ _ _ _ (w1.alloc (.cells #[.slice none 0 0] 54))
    obtain ⟨AB, hAB⟩ : ∃ AB, AB = w1.heap.size := ⟨_, rfl⟩
    have AE := Lib.hid (show w.heap.size ≤ AB ∧ MB < AB by have h1 := B1.out.size; have h2 := KM.out.lt; omega)
    rw [← hAB] at A2 ⊢
    obtain ⟨w2, hw2⟩ : ∃ w2, w2 = w1.alloc (.cells #[.slice none 0 0] 54) := ⟨_, rfl⟩
    rw [← hw2] at K2 A2 B2 ⊢
    have W2 := Lib.hid (show AB < w2.heap.size ∧ MB < w2.heap.size from ⟨A2.out.lt, K2.out.lt⟩)
    clear hw2 hAB KM B1 m0 c1i c1d c2i c2d c3d
    have CS := Lib.hid (scan_any (w := w2) (B := B) (g := g) (b := b) (gs := gs) (r := r) (M := M) (und := und) HN.out HT.out k 56 #[.pointer (some ⟨AB, 0, none⟩), .pointer (some ⟨MB, 0, none⟩)] (enters_of Tryz.func56 (by kernel_rfl) rfl)
      (fun t w' => ∃ x, Bk w' AB 54 #[x] ∧ KOwn w' (AB + 1) x ((kvOf ((fromR R k).take t)).take mm) ∧ Bk w' MB 3 #[.int .i64 mm] ∧ Below w.heap.size w w' ∧ w2.heap.size ≤ w'.heap.size)
      (fun t w' => ∃ x, Bk w' AB 54 #[x] ∧ KOwn w' (AB + 1) x ((kvOf (fromR R k)).take mm) ∧ Below w.heap.size w w')
      (fun t w' hv => by obtain ⟨x, -, -, -, h4, -⟩ := hv; exact HV.out.kept h4)
      (fun t w' w'' hv hb => by obtain ⟨x, h1, h2, h3, h4, h5⟩ := hv; exact ⟨x, h1.kept hb, ow_kept h2 hb, h3.kept hb, below_then h4 hb h4.size, Nat.le_trans h5 hb.size⟩)
      (fun t x w' hx hv => by
        obtain ⟨v, h1, h2, h3, h4, h5⟩ := hv
        have hxR : x ∈ R := (fromR_mem.1 (List.mem_of_getElem? hx)).1
        have hsz : x.2.d.size ≤ maxLen := by
          have e1 := (HT.out.ix.row hxR).2
          have h1 := e1.2.2.1
          rw [Ce.rst_yes e1.1, trest_size] at h1
          have h2 := e1.1.2.2
          unfold maxLen
          omega
        have hln : ((kvOf ((fromR R k).take t)).take mm).length ≤ 64 := by rw [List.length_take]; have := M64.out; omega
        refine (visit_range x.2 hsz _ mm hln M64.out w.heap.size AB MB v w' h1 h3 h2 AE.out.1).mono ?_
        have ht1 : (fromR R k).take (t + 1) = (fromR R k).take t ++ [x] := by rw [List.take_add_one, hx]; rfl
        rintro e w'' ⟨rfl, v', g1, g2, g3, g4⟩
        rw [addK_take, ← kvOf_app, ← ht1] at g2
        rw [addK_take, ← kvOf_app, ← ht1]
        have bd : Below w.heap.size w w'' := ⟨g4.os.trans h4.os, g4.tape.trans h4.tape, g4.output.trans h4.output, Nat.le_trans h4.size g4.size, fun i hi => (g4.block i hi).trans (h4.block i hi)⟩
        refine ⟨?_, fun q cs hq hk => g3 q _ cs hk (by have := W2.out; omega) (by decide)⟩
        by_cases hf : ((kvOf ((fromR R k).take (t + 1))).take mm).length = mm
        · rw [decide_eq_true hf]
          rw [take_full _ _ _ hf] at g2
          exact .inr ⟨rfl, v', g1, g2, bd⟩
        · rw [decide_eq_false hf]
          exact .inl ⟨rfl, v', g1, g2, g3 MB _ _ h3 (by have := AE.out.2; omega) (by decide), bd, Nat.le_trans h5 g4.size⟩)
      (fun t w' q cs ds hv hq hk => by
        obtain ⟨v, h1, h2, h3, h4, h5⟩ := hv
        exact ⟨v, row_far h1 (by have := W2.out; omega), ow_same h2 fun j hj => setRow_other _ _ _ _ (fun e => by obtain ⟨-, -, cur, hc⟩ := ow_blk h2 hj; rw [e] at hc; exact Bk.ne_ hk hc (by decide) rfl), row_far h3 (by have := W2.out; omega), below_setRow h4 (by have := B2.out.size; omega) cs, by simpa [World.setRow] using h5⟩)
      (fun t w' hv => by obtain ⟨v, -, -, -, -, h5⟩ := hv; exact h5)
      ⟨_, A2.out, (by rw [List.take_zero, show kvOf [] = [] from rfl, List.take_nil]; exact World.ownsRow_nil _ _ _ _), K2.out, B2.out, Nat.le_refl _⟩)
    as_aux_lemma =>
      go_wp2_with fail
      refine CS.out.mono ?_
      rintro e w3 ⟨rfl, hd⟩
      obtain ⟨v, g1, g2, g3⟩ : ∃ x, Bk w3 AB 54 #[x] ∧ KOwn w3 (AB + 1) x ((kvOf (fromR R k)).take mm) ∧ Below w.heap.size w w3 := by
        rcases hd with ⟨x, h1, h2, -, h4, -⟩ | ⟨t, -, x, h1, h2, h3⟩
        · rw [List.take_length] at h2
          exact ⟨x, h1, h2, h4⟩
        · exact ⟨x, h1, h2, h3⟩
      have RES := Lib.hid (FIN.out w3 v (ow_mono g2 (by have := AE.out.1; omega)) g3)
      have a0 : w3.cell? ⟨AB, 0, none⟩ = some v := g1.cell 0
      clear hd g1 g2 g3 CS FIN
      go_wp2
      refine bodyPost_ret (v := .tuple #[v, .int .i64 0]) (by simp [results, Tryz.results34, go_sem]) rfl ?_
      exact RES.out
end Go.Proofs.YtaiiimlmkigajaaGreat
namespace Go.Proofs.YtaiiimlmkigajaaGreat
open Go.RowKit Go.Maps

/-- The first cell from a key on, or none. -/
def sought (R : List (ByteArray × Ce)) (k : ByteArray) : Ce := match fromR R k with | [] => czero | x :: _ => x.2
theorem sought_size {pg : Nat → Pg} {n : Nat} {ow : Nat → Option Int} {sn : Int} {rt H : Nat} {lf ids : List Nat} {R : List (ByteArray × Ce)} {ff : Prop} (h : Ix pg n ow sn rt H lf ids R ff) (k : ByteArray) : (sought R k).d.size ≤ maxLen := by
  unfold sought maxLen
  split
  · show (0 : Nat) ≤ _; omega
  · rename_i x l e
    have hx : x ∈ R := (fromR_mem.1 (by rw [e]; exact List.mem_cons_self)).1
    have e1 := (h.row hx).2
    have h1 := e1.2.2.1
    rw [Ce.rst_yes e1.1, trest_size] at h1
    have h2 := e1.1.2.2
    omega
end Go.Proofs.YtaiiimlmkigajaaGreat
namespace Go.Proofs.YtaiiimlmkigajaaGreat
open Go.RowKit Go.Maps

theorem kvL_get : ∀ (l : List Kv) (i : Nat) (x : Kv), l[i]? = some x → ∀ j, j < 3 → (kvL l)[i * 3 + j]? = (encK x)[j]?
  | [], i, x, h, j, hj => by simp at h
  | y :: l, 0, x, h, j, hj => by
    simp at h
    subst h
    show (encK y ++ kvL l)[0 * 3 + j]? = _
    rw [Nat.zero_mul, Nat.zero_add, List.getElem?_append_left (by show j < 3; exact hj)]
  | y :: l, i + 1, x, h, j, hj => by
    have := kvL_get l i x (by simpa using h) j hj
    show (encK y ++ kvL l)[(i + 1) * 3 + j]? = _
    rw [List.getElem?_append_right (by show 3 ≤ (i + 1) * 3 + j; omega), show (encK y).length = 3 from rfl, show (i + 1) * 3 + j - 3 = i * 3 + j by omega]
    exact this
/-- Pairs that lie in a slice. -/
def KAt (w : World) (v : Value) (l : List Kv) : Prop := ∃ a c, v = .slice a l.length c ∧ (l = [] ∨ ∃ g, a = some (⟨g, 0, none⟩ : Addr) ∧ g < w.heap.size ∧ ∀ i x, l[i]? = some x → w.rangeAt g (i * 3) (encK x))
theorem KOwn.at_ {w : World} {base : Nat} {v : Value} {l : List Kv} (h : KOwn w base v l) : KAt w v l := by
  rcases Nat.eq_zero_or_pos l.length with h0 | h0
  · obtain ⟨a, c, rfl⟩ := ow_slice (show w.ownsRow base 83 3 v l.length (kvL l) from h)
    exact ⟨a, c, rfl, .inl (List.eq_nil_of_length_eq_zero h0)⟩
  · obtain ⟨g, cap, hv, h1, h2⟩ := World.ownsRow.form (show w.ownsRow base 83 3 v l.length (kvL l) from h) h0
    refine ⟨_, cap, hv, .inr ⟨g, rfl, h2, fun i x hi j u hu => ?_⟩⟩
    have hj : j < 3 := (List.getElem?_eq_some_iff.1 hu).1
    subst hv
    have := World.ownsRow.cells (show w.ownsRow base 83 3 _ l.length (kvL l) from h) (g := g) rfl (i * 3 + j) u (by rw [kvL_get l i x hi j hj]; exact hu)
    rw [Addr.add_lit, Nat.zero_add] at this
    exact this
theorem KAt.kept {w w' : World} {v : Value} {l : List Kv} (h : KAt w v l) (hb : Below w.heap.size w w') : KAt w' v l := by
  obtain ⟨a, c, e, h⟩ := h
  refine ⟨a, c, e, ?_⟩
  rcases h with h | ⟨g, e1, h1, h2⟩
  · exact .inl h
  · exact .inr ⟨g, e1, Nat.lt_of_lt_of_le h1 hb.size, fun i x hi j u hu => (hb.cell (p := ⟨g, i * 3 + j, none⟩) h1).trans (h2 i x hi j u hu)⟩
end Go.Proofs.YtaiiimlmkigajaaGreat
