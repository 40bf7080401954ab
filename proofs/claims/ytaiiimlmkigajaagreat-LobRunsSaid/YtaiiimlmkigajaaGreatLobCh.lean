/- Layer 17: load, Len, Read, New, Write, Truncate, Destroy. Layer 17: the law's own volume and land. Layer 17: Truncate, Write. Layer 17: awake, the law's steps, the reference's key. Layer 17: what came in for the laws. Layer 17: a change that lands. -/
import Derived.Test.YtaiiimlmkigajaaGreatLobPc
import Derived.Test.YtaiiimlmkigajaaGreatRead
set_option linter.unusedVariables false
set_option linter.unusedSimpArgs false
namespace Go.Proofs.YtaiiimlmkigajaaGreat
open Go.RowKit Go.Maps Go.ChangeShapes Go.WideShapes Go.ChangeAt Go.Deep

theorem tx_at {w : World} {base : Nat} {v : Value} {l : List ByteArray} (h : TxOwn w base v l) (hl : 0 < l.length) : ∃ g cap, v = .slice (some ⟨g, 0, none⟩) l.length cap ∧ g < w.heap.size ∧ l.length ≤ cap ∧ ∀ j x, l[j]? = some x → w.cell? ⟨g, 0 + j, none⟩ = some (.string x) := by
  have h0 : w.ownsRow base 9 1 v l.length (txL l) := h
  rcases h0 with ⟨h1, ⟨-, h2⟩ | ⟨g, cap, cur, hv, h3, h4, h5, h6, -⟩⟩
  · exfalso
    rw [h2] at h1
    simp at h1
    omega
  · subst hv
    refine ⟨g, cap, rfl, Bk.lt h4, h5, fun j x hx => ?_⟩
    have := World.ownsRow.cells (show w.ownsRow base 9 1 _ l.length (txL l) from h) (g := g) rfl j (.string x) (by unfold txL; rw [List.getElem?_map, hx]; rfl)
    rw [Addr.add_lit] at this
    exact this
theorem tx_row {w : World} {base : Nat} {v : Value} {l : List ByteArray} (h : TxOwn w base v l) (hm : l.length ≤ maxLen) : SRow w v l := by
  rcases Nat.eq_zero_or_pos l.length with h0 | h0
  · obtain ⟨a, c, rfl⟩ := ow_slice (show w.ownsRow base 9 1 v l.length (txL l) from h)
    exact ⟨hm, a, c, rfl, .inl (List.eq_nil_of_length_eq_zero h0)⟩
  · obtain ⟨g, cap, rfl, h2, h3, hc⟩ := tx_at h h0
    refine ⟨hm, _, cap, rfl, .inr ⟨g, 0, rfl, h2, fun j hj => ?_⟩⟩
    exact hc j _ (by rw [List.getD_eq_getElem?_getD, List.getElem?_eq_getElem hj]; rfl)
/-- Objects by their numbers, as pieces. -/
def pcO : Option ByteArray → List ByteArray
  | some d => cutB d
  | none => []
abbrev Do := Int → Option ByteArray
def fo (D : Do) : Fo := fun n q => (pcO (D n))[q]?
def setD (D : Do) (n : Int) (o : Option ByteArray) : Do := fun k => if k = n then o else D k
theorem fo_set (D : Do) (n : Int) (o : Option ByteArray) : objF (fo D) n (pcO o) = fo (setD D n o) := by
  funext k q
  unfold objF fo setD
  by_cases e : k = n
  · rw [if_pos e, if_pos e]
  · rw [if_neg e, if_neg e]
theorem pcO_len (o : Option ByteArray) (h : ∀ d, o = some d → d.size ≤ 4096) : (pcO o).length ≤ 256 := by
  cases o with
  | none => exact Nat.zero_le _
  | some d =>
    show (cutB d).length ≤ 256
    rw [cutB_len]
    have := h d rfl
    unfold pieceN
    omega
structure Od (w : World) (B g b gs r M : Nat) (D : Do) (m : Nat) : Prop where
  lo : Lo w B g b gs r M (fo D) m
  sz : ∀ n d, D n = some d → d.size ≤ 4096
theorem Od.kept {w w' : World} {B g b gs r M : Nat} {D : Do} {m : Nat} (h : Od w B g b gs r M D m) (hb : Below w.heap.size w w') : Od w' B g b gs r M D m := ⟨h.lo.kept hb, h.sz⟩
def okN (num : Int) : Prop := 0 ≤ num ∧ num < 1000
instance (num : Int) : Decidable (okN num) := by unfold okN; infer_instance
/-- What finding an object answers: an error, and its bytes. -/
def erD (D : Do) (num : Int) : Int := if ¬ okN num then 1 else match D num with | none => 150 | some _ => 0
def dtD (D : Do) (num : Int) : ByteArray := if ¬ okN num then ⟨#[]⟩ else match D num with | none => ⟨#[]⟩ | some d => d
theorem er_bad {D : Do} {num : Int} (h : ¬ okN num) : erD D num = 1 ∧ dtD D num = ⟨#[]⟩ := by unfold erD dtD; rw [if_pos h, if_pos h]; exact ⟨rfl, rfl⟩
theorem er_no {D : Do} {num : Int} (h : okN num) (hn : D num = none) : erD D num = 150 ∧ dtD D num = ⟨#[]⟩ := by
  unfold erD dtD
  rw [if_neg (not_not_intro h), if_neg (not_not_intro h), hn]
  exact ⟨rfl, rfl⟩
theorem er_yes {D : Do} {num : Int} {d : ByteArray} (h : okN num) (hn : D num = some d) : erD D num = 0 ∧ dtD D num = d := by
  unfold erD dtD
  rw [if_neg (not_not_intro h), if_neg (not_not_intro h), hn]
  exact ⟨rfl, rfl⟩
theorem inter_nil : ∀ l : List (List UInt8), List.intercalate [] l = l.flatten
  | [] => rfl
  | [x] => by simp [List.intercalate]
  | x :: y :: l => by
    have := inter_nil (y :: l)
    unfold List.intercalate at this ⊢
    rw [List.intersperse_cons_cons, List.flatten_cons, List.flatten_cons, this]
    simp
def LdP (w : World) (D : Do) (num : Int) (e : Ending) (w' : World) : Prop :=
  ∃ v, e = .returned (.tuple #[v, .string (dtD D num), .int .i64 (erD D num)]) ∧ (erD D num ≠ 0 → v = .slice none 0 0) ∧ (erD D num = 0 → okN num ∧ D num = some (dtD D num) ∧ TxOwn w' w.heap.size v (cutB (dtD D num))) ∧ Below w.heap.size w w'
set_option maxRecDepth 100000 in
set_option maxHeartbeats 8000000 in
theorem bload_any {w : World} {B g b gs r M : Nat} {D : Do} {m : Nat} (h : Od w B g b gs r M D m) (num : Int) :
    Calls Tryz.prog 25 #[.pointer (some ⟨g, 0, none⟩), .int .i64 1, .int .i64 num] w (LdP w D num) := by
  have CP := Lib.hid (pieces_any h.lo num (pcO (D num)) (fun _ i _ => rfl) (by have := pcO_len (D num) (fun d hd => h.sz num d hd); omega))
  have SZ := Lib.hid (h.sz num)
  clear h
  go_enter Tryz.func25, Tryz.ntmps25
  go_wp2_with fail
  refine CP.out.mono ?_
  rintro e w1 ⟨(⟨hn, rfl⟩ | ⟨hn, hl, rfl⟩ | ⟨hn, hl, v, rfl, ho⟩), hb⟩
  · have E := er_bad (D := D) hn
    have F1 := Lib.hid (show LdP w D num (.returned (.tuple #[.slice none 0 0, .string ⟨#[]⟩, .int .i64 1])) w1 from ⟨_, by rw [E.1, E.2], fun _ => rfl, fun h => by rw [E.1] at h; exact absurd h (by decide), hb⟩)
    clear E hb hn CP
    as_aux_lemma =>
      go_wp2
      refine bodyPost_ret (v := .tuple #[.slice none 0 0, .string ⟨#[]⟩, .int .i64 1]) (by simp [results, Tryz.results25, go_sem]) rfl ?_
      exact F1.out
  · have hd : D num = none := by
      cases e : D num with
      | none => rfl
      | some d =>
        rw [e] at hl
        have : (cutB d).length = 0 := by rw [show cutB d = [] from hl]; rfl
        rw [cutB_len] at this
        unfold pieceN at this
        omega
    have E := er_no (D := D) hn hd
    have F1 := Lib.hid (show LdP w D num (.returned (.tuple #[.slice none 0 0, .string ⟨#[]⟩, .int .i64 150])) w1 from ⟨_, by rw [E.1, E.2], fun _ => rfl, fun h => by rw [E.1] at h; exact absurd h (by decide), hb⟩)
    clear E hb hn CP hd hl
    as_aux_lemma =>
      go_wp2
      refine bodyPost_ret (v := .tuple #[.slice none 0 0, .string ⟨#[]⟩, .int .i64 150]) (by simp [results, Tryz.results25, go_sem]) rfl ?_
      exact F1.out
  · obtain ⟨d, hd⟩ : ∃ d, D num = some d := by
      cases e : D num with
      | none => rw [e] at hl; exact absurd rfl hl
      | some d => exact ⟨d, rfl⟩
    rw [hd] at ho
    have E := er_yes (D := D) hn hd
    have d4 : d.size ≤ 4096 := SZ.out d hd
    have cl : (cutB d).length = pieceN d := cutB_len d
    have pn : 1 ≤ pieceN d ∧ pieceN d ≤ 256 := by unfold pieceN; omega
    have ho' : TxOwn w1 w.heap.size v (cutB d) := ho
    obtain ⟨g2, cap, rfl, hg2, hcap, hcel⟩ := tx_at ho' (by omega)
    have JL : Lib.join ((cutB d).map (·.data.toList)) (⟨#[]⟩ : ByteArray).data.toList = d.data.toList := by
      rw [← joinB_cut d]
      show List.intercalate [] _ = _
      exact inter_nil _
    have CJ := Tryz.strings_Join g2 0 cap (cutB d) ⟨#[]⟩ w1 hcel hg2 (by omega) hcap (by rw [JL, Array.length_toList]; show d.size ≤ _; omega)
    rw [JL] at CJ
    rw [show (⟨d.data.toList.toArray⟩ : ByteArray) = d from ba_list (by simp)] at CJ
    have CJ := Lib.hid CJ
    have O1 := Lib.hid ho'
    have B1 := Lib.hid hb
    have FIN := Lib.hid (show ∀ w2, Below w1.heap.size w1 w2 → LdP w D num (.returned (.tuple #[.slice (some ⟨g2, 0, none⟩) (cutB d).length cap, .string d, .int .i64 0])) w2 from fun w2 h2 => ⟨_, by rw [E.1, E.2], fun h => absurd E.1 h, fun _ => ⟨hn, by rw [E.2]; exact hd, by rw [E.2]; exact ow_kept ho' h2⟩, below_then hb h2 hb.size⟩)
    obtain ⟨cn, hcn⟩ : ∃ cn, cn = (cutB d).length := ⟨_, rfl⟩
    rw [← hcn] at CJ FIN ⊢
    clear E d4 cl pn ho ho' hb hg2 hcap hcel JL hcn CP hl hn hd SZ O1
    as_aux_lemma =>
      go_wp2_with fail
      refine CJ.out.mono ?_
      rintro e w2 ⟨rfl, hb⟩
      have F1 := Lib.hid (FIN.out w2 hb)
      clear hb CJ FIN B1
      go_wp2
      refine bodyPost_ret (v := .tuple #[.slice (some ⟨g2, 0, none⟩) cn cap, .string d, .int .i64 0]) (by simp [results, Tryz.results25, go_sem]) rfl ?_
      exact F1.out
set_option maxRecDepth 100000 in
set_option maxHeartbeats 4000000 in
theorem blen_any {w : World} {B g b gs r M : Nat} {D : Do} {m : Nat} (h : Od w B g b gs r M D m) (num : Int) :
    Calls Tryz.prog 6 #[.pointer (some ⟨g, 0, none⟩), .int .i64 1, .int .i64 num] w fun e w' => e = .returned (.tuple #[.int .i64 (dtD D num).size, .int .i64 (erD D num)]) ∧ Below w.heap.size w w' := by
  have CL := Lib.hid (bload_any h num)
  have SZ := Lib.hid (show (dtD D num).size ≤ 4096 from by
    unfold dtD
    split
    · decide
    · split
      · decide
      · rename_i d hd; exact h.sz num d hd)
  clear h
  go_enter Tryz.func6, Tryz.ntmps6
  go_wp2_with fail
  refine CL.out.mono ?_
  rintro e w1 ⟨v, rfl, -, -, hb⟩
  have B1 := Lib.hid hb
  have s9 : (dtD D num).size ≤ 9223372036854775807 := by have := SZ.out; omega
  clear hb CL
  go_wp2
  refine bodyPost_ret (v := .tuple #[.int .i64 (dtD D num).size, .int .i64 (erD D num)]) (by simp [results, Tryz.results6, go_sem]) rfl ?_
  exact ⟨rfl, B1.out⟩
/-- What Read answers. -/
def rdD (D : Do) (num at_ n : Int) : ByteArray × Int :=
  if erD D num ≠ 0 then (⟨#[]⟩, erD D num) else if at_ < 0 ∨ (dtD D num).size < at_ ∨ n < 0 ∨ ((dtD D num).size : Int) - at_ < n then (⟨#[]⟩, 1) else ((dtD D num).extract at_.toNat (at_.toNat + n.toNat), 0)
set_option maxRecDepth 100000 in
set_option maxHeartbeats 4000000 in
theorem bread_any {w : World} {B g b gs r M : Nat} {D : Do} {m : Nat} (h : Od w B g b gs r M D m) (num at_ n : Int) :
    Calls Tryz.prog 8 #[.pointer (some ⟨g, 0, none⟩), .int .i64 1, .int .i64 num, .int .i64 at_, .int .i64 n] w fun e w' => e = .returned (.tuple #[.string (rdD D num at_ n).1, .int .i64 (rdD D num at_ n).2]) ∧ Below w.heap.size w w' := by
  have CL := Lib.hid (bload_any h num)
  have SZ := Lib.hid (show (dtD D num).size ≤ 4096 from by
    unfold dtD
    split
    · decide
    · split
      · decide
      · rename_i d hd; exact h.sz num d hd)
  clear h
  obtain ⟨rs, hrs⟩ : ∃ rs, rs = (rdD D num at_ n).1 := ⟨_, rfl⟩
  obtain ⟨re, hre⟩ : ∃ re, re = (rdD D num at_ n).2 := ⟨_, rfl⟩
  rw [← hrs, ← hre]
  unfold rdD at hrs hre
  have RS := Lib.hid hrs; have RE := Lib.hid hre
  clear hrs hre
  go_enter Tryz.func8, Tryz.ntmps8
  go_wp2_with fail
  refine CL.out.mono ?_
  rintro e w1 ⟨v, rfl, -, -, hb⟩
  have B1 := Lib.hid hb
  have SS := SZ.out
  have H1 := RS.out; have H2 := RE.out
  clear RS RE SZ hb CL
  generalize dtD D num = d at *
  generalize erD D num = er at *
  by_cases c0 : er = 0
  · subst c0
    rw [if_neg (show ¬ ((0 : Int) ≠ 0) from fun h => h rfl)] at H1 H2
    have s9 : d.size ≤ 9223372036854775807 := by omega
    by_cases c1 : at_ < 0
    · rw [if_pos (.inl c1)] at H1 H2
      have H := Lib.hid (And.intro H1 H2)
      clear H1 H2
      as_aux_lemma =>
        go_wp2
        refine bodyPost_ret (v := .tuple #[.string ⟨#[]⟩, .int .i64 1]) (by simp [results, Tryz.results8, go_sem]) rfl ?_
        exact ⟨by rw [H.out.1, H.out.2], B1.out⟩
    by_cases c2 : (d.size : Int) < at_
    · rw [if_pos (.inr (.inl c2))] at H1 H2
      have H := Lib.hid (And.intro H1 H2)
      clear H1 H2
      as_aux_lemma =>
        go_wp2
        refine bodyPost_ret (v := .tuple #[.string ⟨#[]⟩, .int .i64 1]) (by simp [results, Tryz.results8, go_sem]) rfl ?_
        exact ⟨by rw [H.out.1, H.out.2], B1.out⟩
    by_cases c3 : n < 0
    · rw [if_pos (.inr (.inr (.inl c3)))] at H1 H2
      have H := Lib.hid (And.intro H1 H2)
      clear H1 H2
      as_aux_lemma =>
        go_wp2
        refine bodyPost_ret (v := .tuple #[.string ⟨#[]⟩, .int .i64 1]) (by simp [results, Tryz.results8, go_sem]) rfl ?_
        exact ⟨by rw [H.out.1, H.out.2], B1.out⟩
    have wr1 : wrap64 ((d.size : Int) - at_) = (d.size : Int) - at_ := by unfold wrap64; omega
    by_cases c4 : (d.size : Int) - at_ < n
    · rw [if_pos (.inr (.inr (.inr c4)))] at H1 H2
      have H := Lib.hid (And.intro H1 H2)
      clear H1 H2
      as_aux_lemma =>
        go_wp2
        refine bodyPost_ret (v := .tuple #[.string ⟨#[]⟩, .int .i64 1]) (by simp [results, Tryz.results8, go_sem]) rfl ?_
        exact ⟨by rw [H.out.1, H.out.2], B1.out⟩
    rw [if_neg (by omega)] at H1 H2
    obtain ⟨ka, rfl⟩ := Int.eq_ofNat_of_zero_le (show 0 ≤ at_ by omega)
    obtain ⟨kn, rfl⟩ := Int.eq_ofNat_of_zero_le (show 0 ≤ n by omega)
    have k1 : ka ≤ d.size := by omega
    have k2 : ka + kn ≤ d.size := by omega
    have k1i : (ka : Int) ≤ (d.size : Int) := by omega
    have k2i : (ka : Int) + (kn : Int) ≤ (d.size : Int) := by omega
    have wr2 : wrap64 ((ka : Int) + (kn : Int)) = (ka : Int) + (kn : Int) := by unfold wrap64; omega
    have wr3 : ((ka : Int) + (kn : Int)).toNat = ka + kn := by omega
    have H := Lib.hid (And.intro H1 H2)
    clear H1 H2
    as_aux_lemma =>
      go_wp2
      refine bodyPost_ret (v := .tuple #[.string (d.extract ka (ka + kn)), .int .i64 0]) (by simp [results, Tryz.results8, go_sem]) rfl ?_
      exact ⟨by rw [H.out.1, H.out.2]; rfl, B1.out⟩
  · rw [if_pos c0] at H1 H2
    have c0b : (er != 0) = true := by simp [c0]
    have H := Lib.hid (And.intro H1 H2)
    clear c0 H1 H2
    as_aux_lemma =>
      go_wp2
      refine bodyPost_ret (v := .tuple #[.string ⟨#[]⟩, .int .i64 er]) (by simp [results, Tryz.results8, go_sem]) rfl ?_
      exact ⟨by rw [H.out.1, H.out.2], B1.out⟩
/-- What a change of an object answers: an error, and what the object is behind it. -/
def newD (D : Do) (num : Int) : Int × Option ByteArray := if ¬ okN num then (1, none) else match D num with | some _ => (160, none) | none => (0, some ⟨#[]⟩)
def wrD (D : Do) (num at_ : Int) (val : ByteArray) : Int × Option ByteArray :=
  if erD D num ≠ 0 then (erD D num, none) else if at_ < 0 ∨ ((dtD D num).size : Int) < at_ then (1, none) else if 64 < val.size ∨ 4096 < at_ + val.size then (2, none) else
    (0, some ((dtD D num).extract 0 at_.toNat ++ val ++ (dtD D num).extract (min (at_.toNat + val.size) (dtD D num).size) (dtD D num).size))
def cutD (D : Do) (num n : Int) : Int × Option ByteArray :=
  if erD D num ≠ 0 then (erD D num, none) else if n < 0 ∨ ((dtD D num).size : Int) < n then (1, none) else (0, some ((dtD D num).extract 0 n.toNat))
def delD (D : Do) (num : Int) : Int × Option ByteArray := (erD D num, none)
/-- The steps of a change. -/
def ChD (w : World) (D : Do) (num : Int) (x : Int × Option ByteArray) (e : Ending) (w' : World) : Prop :=
  ∃ v, e = .returned (.tuple #[v, .int .i64 x.1]) ∧ (x.1 ≠ 0 → v = .slice none 0 0) ∧ (x.1 = 0 → okN num ∧ StOwn w' w.heap.size v num (stepL (pcO (D num)) (pcO x.2) (max (pcO (D num)).length (pcO x.2).length))) ∧ Below w.heap.size w w'
theorem ch_bad {w w' : World} {D : Do} {num er : Int} {x : Int × Option ByteArray} (hx : x = (er, none)) (h0 : er ≠ 0) (hb : Below w.heap.size w w') : ChD w D num x (.returned (.tuple #[.slice none 0 0, .int .i64 er])) w' := by
  subst hx
  exact ⟨_, rfl, fun _ => rfl, fun h => absurd h h0, hb⟩
set_option maxRecDepth 100000 in
set_option maxHeartbeats 4000000 in
theorem bnew_any {w : World} {B g b gs r M : Nat} {D : Do} {m : Nat} (h : Od w B g b gs r M D m) (num : Int) :
    Calls Tryz.prog 20 #[.pointer (some ⟨g, 0, none⟩), .int .i64 1, .int .i64 num] w (ChD w D num (newD D num)) := by
  have CP := Lib.hid (pieces_any h.lo num (pcO (D num)) (fun _ i _ => rfl) (by have := pcO_len (D num) (fun d hd => h.sz num d hd); omega))
  clear h
  go_enter Tryz.func20, Tryz.ntmps20
  go_wp2_with fail
  refine CP.out.mono ?_
  rintro e w1 ⟨(⟨hn, rfl⟩ | ⟨hn, hl, rfl⟩ | ⟨hn, hl, v, rfl, ho⟩), hb⟩
  · have F1 := Lib.hid (ch_bad (x := newD D num) (D := D) (num := num) (er := 1) (by unfold newD; rw [if_pos (show ¬ okN num from hn)]) (by decide) hb)
    clear hb hn CP
    as_aux_lemma =>
      go_wp2
      refine bodyPost_ret (v := .tuple #[.slice none 0 0, .int .i64 1]) (by simp [results, Tryz.results20, go_sem]) rfl ?_
      exact F1.out
  · have hd : D num = none := by
      cases e : D num with
      | none => rfl
      | some d =>
        rw [e] at hl
        have : (cutB d).length = 0 := by rw [show cutB d = [] from hl]; rfl
        rw [cutB_len] at this
        unfold pieceN at this
        omega
    have e1 : newD D num = (0, some ⟨#[]⟩) := by unfold newD; rw [if_neg (not_not_intro (show okN num from hn)), hd]
    have B1 := Lib.hid hb
    have CS := Lib.hid (slice_any ⟨#[]⟩ (by decide) w1)
    have OK := Lib.hid (show okN num from hn)
    have E1 := Lib.hid e1; have HD := Lib.hid hd
    clear hb CP hn hl hd e1
    as_aux_lemma =>
      go_wp2_with fail
      refine CS.out.mono ?_
      rintro e w2 ⟨sv, rfl, ho, hb⟩
      have cl : (cutB ⟨#[]⟩).length = 1 := by rw [cutB_len]; decide
      have CT := Lib.hid (steps_any num (by have h := OK.out; unfold okN at h; omega) (.slice none 0 0) sv [] (cutB ⟨#[]⟩) w2 (SRow.nil w2) (tx_row ho (by rw [cl]; decide)) (by decide) (by omega))
      have B2 := Lib.hid (below_then B1.out hb B1.out.size)
      clear ho hb cl CS B1
      as_aux_lemma =>
        go_wp2_with fail
        refine CT.out.mono ?_
        rintro e w3 ⟨v, rfl, ho, hb⟩
        have F1 := Lib.hid (show ChD w D num (newD D num) (.returned (.tuple #[v, .int .i64 0])) w3 from ⟨v, by rw [E1.out], fun h => absurd (by rw [E1.out]) h, fun _ => ⟨OK.out, by rw [E1.out, HD.out]; exact ow_mono ho B2.out.size⟩, below_then B2.out hb B2.out.size⟩)
        clear ho hb CT B2
        go_wp2
        refine bodyPost_ret (v := .tuple #[v, .int .i64 0]) (by simp [results, Tryz.results20, go_sem]) rfl ?_
        exact F1.out
  · have F1 := Lib.hid (ch_bad (x := newD D num) (D := D) (num := num) (er := 160) (by
      unfold newD
      rw [if_neg (not_not_intro (show okN num from hn))]
      cases e : D num with
      | none => rw [e] at hl; exact absurd rfl hl
      | some d => rfl) (by decide) hb)
    clear hb hn CP ho hl
    as_aux_lemma =>
      go_wp2
      refine bodyPost_ret (v := .tuple #[.slice none 0 0, .int .i64 160]) (by simp [results, Tryz.results20, go_sem]) rfl ?_
      exact F1.out
set_option maxRecDepth 100000 in
set_option maxHeartbeats 4000000 in
theorem bdel_any {w : World} {B g b gs r M : Nat} {D : Do} {m : Nat} (h : Od w B g b gs r M D m) (num : Int) :
    Calls Tryz.prog 29 #[.pointer (some ⟨g, 0, none⟩), .int .i64 1, .int .i64 num] w (ChD w D num (delD D num)) := by
  have PL := Lib.hid (pcO_len (D num) (fun d hd => h.sz num d hd))
  have CP := Lib.hid (pieces_any h.lo num (pcO (D num)) (fun _ i _ => rfl) (by have := PL.out; omega))
  clear h
  go_enter Tryz.func29, Tryz.ntmps29
  go_wp2_with fail
  refine CP.out.mono ?_
  rintro e w1 ⟨(⟨hn, rfl⟩ | ⟨hn, hl, rfl⟩ | ⟨hn, hl, v, rfl, ho⟩), hb⟩
  · have F1 := Lib.hid (ch_bad (x := delD D num) (D := D) (num := num) (er := 1) (by unfold delD; rw [(er_bad hn).1]) (by decide) hb)
    clear hb hn CP
    as_aux_lemma =>
      go_wp2
      refine bodyPost_ret (v := .tuple #[.slice none 0 0, .int .i64 1]) (by simp [results, Tryz.results29, go_sem]) rfl ?_
      exact F1.out
  · have hd : D num = none := by
      cases e : D num with
      | none => rfl
      | some d =>
        rw [e] at hl
        have : (cutB d).length = 0 := by rw [show cutB d = [] from hl]; rfl
        rw [cutB_len] at this
        unfold pieceN at this
        omega
    have F1 := Lib.hid (ch_bad (x := delD D num) (D := D) (num := num) (er := 150) (by unfold delD; rw [(er_no hn hd).1]) (by decide) hb)
    clear hb hn CP hd hl
    as_aux_lemma =>
      go_wp2
      refine bodyPost_ret (v := .tuple #[.slice none 0 0, .int .i64 150]) (by simp [results, Tryz.results29, go_sem]) rfl ?_
      exact F1.out
  · obtain ⟨d, hd⟩ : ∃ d, D num = some d := by
      cases e : D num with
      | none => rw [e] at hl; exact absurd rfl hl
      | some d => exact ⟨d, rfl⟩
    have e1 : delD D num = (0, none) := by unfold delD; rw [(er_yes hn hd).1]
    have B1 := Lib.hid hb
    have OK := Lib.hid (show okN num from hn)
    have E1 := Lib.hid e1
    have CT := Lib.hid (steps_any num (by omega) v (.slice none 0 0) (pcO (D num)) [] w1 (tx_row ho (by have := PL.out; unfold maxLen; omega)) (SRow.nil w1) (by have := PL.out; omega) (by decide))
    clear hb CP hn hl hd e1 ho
    as_aux_lemma =>
      go_wp2_with fail
      refine CT.out.mono ?_
      rintro e w3 ⟨v, rfl, ho, hb⟩
      have F1 := Lib.hid (show ChD w D num (delD D num) (.returned (.tuple #[v, .int .i64 0])) w3 from ⟨v, by rw [E1.out], fun h => absurd (by rw [E1.out]) h, fun _ => ⟨OK.out, by rw [E1.out]; exact ow_mono ho B1.out.size⟩, below_then B1.out hb B1.out.size⟩)
      clear ho hb CT B1
      go_wp2
      refine bodyPost_ret (v := .tuple #[v, .int .i64 0]) (by simp [results, Tryz.results29, go_sem]) rfl ?_
      exact F1.out
end Go.Proofs.YtaiiimlmkigajaaGreat
namespace Go.Proofs.YtaiiimlmkigajaaGreat
open Go.RowKit Go.Maps Go.ChangeShapes Go.WideShapes Go.ChangeAt Go.Deep

def Vo17 (w : World) (e : Ending) (w' : World) : Prop :=
  ∃ (g b gs r : Nat), e = .returned (.tuple #[.pointer (some ⟨g, 0, none⟩), .bool true]) ∧ Od w' w.heap.size g b gs r 5 (fun _ => none) 1 ∧ Below w.heap.size w w'
theorem fo_none : fo (fun _ => none) = fun _ _ => none := by funext n q; unfold fo pcO; rfl
set_option maxRecDepth 100000 in
set_option maxHeartbeats 8000000 in
theorem volume17 (w : World) : Calls Tryz.prog 5 #[] w (Vo17 w) := by
  have CM := memory_good 1024 w (by omega) (by omega)
  rw [show ((1024 : Nat) : Int) = 1024 from rfl] at CM
  have CM := Lib.hid CM
  go_enter Tryz.func5, Tryz.ntmps5
  go_wp2_with fail
  refine CM.out.mono ?_
  rintro e w1 ⟨gs, r, rfl, hS, hb⟩
  have S1 := Lib.hid hS; have B1 := Lib.hid hb
  clear hS hb CM
  go_wp2_with fail
  refine (ss_new S1.out B1.out.size).mono ?_
  rintro e w2 ⟨g, b, rfl, hs, hb, hg1, hb1⟩
  have B2 := Lib.hid (below_then B1.out hb B1.out.size)
  have V2 := Lib.hid (sv_zero hs)
  clear hs hb hg1 hb1 S1 B1
  as_aux_lemma =>
    have CF := format_good V2.out (by omega) 1024 (by omega) (by omega) (by decide)
    rw [show ((1024 : Nat) : Int) = 1024 from rfl] at CF
    have CF := Lib.hid CF
    go_wp2_with fail
    refine CF.out.mono ?_
    rintro e w3 ⟨rfl, hs, hg⟩
    have V3 := Lib.hid (show SV w3 w.heap.size g b gs r 1024 2 pz (pvT (1024 : Nat)) from hs)
    have B3 := Lib.hid (bl_grow B2.out hg (fun k hk => by cases hk; exact V2.out.b_ge) B2.out.size)
    clear hs hg CF V2 B2
    as_aux_lemma =>
      have CK := Lib.hid (make_object V3.out (by decide))
      go_wp2_with fail
      refine CK.out.mono ?_
      rintro e w4 ⟨rfl, hs, hg⟩
      have F1 := Lib.hid (show Vo17 w (.returned (.tuple #[.pointer (some ⟨g, 0, none⟩), .bool true])) w4 from ⟨g, b, gs, r, rfl, ⟨by rw [fo_none]; exact hs, fun n d h => (by cases h)⟩, bl_grow B3.out hg (fun k hk => by cases hk; exact V3.out.b_ge) B3.out.size⟩)
      clear hs hg CK V3 B3
      go_wp2
      refine bodyPost_ret (v := .tuple #[.pointer (some ⟨g, 0, none⟩), .bool true]) (by simp [results, Tryz.results5, go_sem]) rfl ?_
      exact F1.out
theorem stL_get (num : Int) : ∀ (l : List St) (i : Nat) (s : St), l[i]? = some s → ∀ j, j < 3 → (stL num l)[i * 3 + j]? = (stC num s).toList[j]?
  | [], i, x, h, j, hj => by simp at h
  | y :: l, 0, x, h, j, hj => by
    simp at h
    subst h
    show ((stC num y).toList ++ stL num l)[0 * 3 + j]? = _
    rw [Nat.zero_mul, Nat.zero_add, List.getElem?_append_left (by show j < 3; exact hj)]
  | y :: l, i + 1, x, h, j, hj => by
    have := stL_get num l i x (by simpa using h) j hj
    show ((stC num y).toList ++ stL num l)[(i + 1) * 3 + j]? = _
    rw [List.getElem?_append_right (by show 3 ≤ (i + 1) * 3 + j; omega), show (stC num y).toList.length = 3 from rfl, show (i + 1) * 3 + j - 3 = i * 3 + j by omega]
    exact this
theorem st_at {w : World} {base n : Nat} {v : Value} {num : Int} {l : List St} (h : w.ownsRow base 52 3 v n (stL num l)) {i : Nat} {s : St} (hn : i < n) (hi : l[i]? = some s) : ∃ g cap, v = .slice (some ⟨g, 0, none⟩) n cap ∧ base ≤ g ∧ w.rangeAt g (i * 3) (stC num s).toList := by
  obtain ⟨g, cap, hv, h1, h2⟩ := World.ownsRow.form h (by omega)
  refine ⟨g, cap, hv, by subst hv; exact (ow_blk h rfl).1, fun j v' hv' => ?_⟩
  have hj : j < 3 := by have := (List.getElem?_eq_some_iff.1 hv').1; rwa [show (stC num s).toList.length = 3 from rfl] at this
  subst hv
  have := World.ownsRow.cells h (g := g) rfl (i * 3 + j) v' (by rw [stL_get num l i s hi j hj]; exact hv')
  rw [Addr.add_lit, Nat.zero_add] at this
  exact this
theorem putsN_snoc (l : List St) (t : Nat) (s : St) (h : l[t]? = some s) : putsN (l.take (t + 1)) = putsN (l.take t) + (if s.k = 13 then 1 else 0) := by
  unfold putsN
  rw [List.take_add_one, h, List.filter_append, List.length_append]
  congr 1
  by_cases e : s.k = 13 <;> simp [e]
theorem goes_drop {num : Int} {F F' : Fo} {l : List St} {t : Nat} {s : St} (h : Goes num F (l.drop t) F') (hs : l[t]? = some s) : StOk F num s ∧ Goes num (stF F num s) (l.drop (t + 1)) F' := by
  have e : l.drop t = s :: l.drop (t + 1) := by
    obtain ⟨h1, h2⟩ := List.getElem?_eq_some_iff.1 hs
    rw [List.drop_eq_getElem_cons h1, h2]
  rw [e] at h
  exact h
set_option maxRecDepth 100000 in
set_option maxHeartbeats 16000000 in
theorem land17 {w : World} {B g b gs r M : Nat} {F F' : Fo} {m : Nat} (h : Lo w B g b gs r M F m) (num : Int) (hok : okN num) (v : Value) (ss : List St) (base : Nat) (ho : StOwn w base v num ss) (hbase : b < base) (hg : Goes num F ss F') (hM : M + 40 * ss.length < 1000000) (hm : m + putsN ss ≤ 500) :
    Calls Tryz.prog 16 #[.pointer (some ⟨g, 0, none⟩), v] w fun e w' => e = .returned (.bool true) ∧ Lo w' B g b gs r (M + 40 * ss.length) F' (m + putsN ss) ∧ w.grownBy w' (some b) := by
  obtain ⟨n, hn⟩ : ∃ n, n = ss.length := ⟨_, rfl⟩
  have ho' : w.ownsRow base 52 3 v ss.length (stL num ss) := ho
  rw [← hn] at hM ho' ⊢
  obtain ⟨va, vc, rfl⟩ := ow_slice ho'
  have V0 := Lib.hid h; have O0 := Lib.hid ho'; have G0 := Lib.hid hg; have HM := Lib.hid hM; have HP := Lib.hid hm; have OK := Lib.hid hok; have HB := Lib.hid hbase; have HN := Lib.hid hn
  have n9 : n ≤ 9223372036854775807 := by omega
  clear h ho ho' hg hM hm hok hbase hn
  go_enter Tryz.func16, Tryz.ntmps16
  go_wp2_with fail
  go_loopw [10] (fun iv wr => ∃ (t : Nat) (F1 : Fo), iv = .int .i64 t ∧ t ≤ n ∧ Goes num F1 (ss.drop t) F' ∧ Lo wr B g b gs r (M + 40 * t) F1 (m + putsN (ss.take t)) ∧ wr.ownsRow base 52 3 (.slice va n vc) n (stL num ss) ∧ w.grownBy wr (some b)) (fun iv _ => n - (RowKit.intOf iv).toNat)
  case atStart => exact ⟨0, F, rfl, Nat.zero_le _, G0.out, V0.out, O0.out, ⟨rfl, rfl, rfl, Nat.le_refl _, fun _ _ _ => rfl⟩⟩
  case round =>
    clear V0 O0 G0
    obtain ⟨t, F1, rfl, ht, hg, hv, ho, hw⟩ := hrel
    have V := Lib.hid hv; have O := Lib.hid ho; have W := Lib.hid hw
    have TN := Lib.hid ht
    by_cases hlt : t < n
    · have hlti : (t : Int) < (n : Int) := by omega
      have tb : t < 9223372036854775807 := by omega
      obtain ⟨s, hs⟩ : ∃ s, ss[t]? = some s := ⟨_, List.getElem?_eq_getElem (by rw [← HN.out]; exact hlt)⟩
      obtain ⟨g2, vc', e1, hg2, hrow⟩ := st_at ho hlt hs
      obtain ⟨rfl, rfl⟩ : va = some ⟨g2, 0, none⟩ ∧ vc = vc' := by injection e1 with a1 _ a2; exact ⟨a1, a2⟩
      have x0 : wr.cell? ⟨g2, t * 3, none⟩ = some (.int .i64 s.k) := hrow 0 _ rfl
      have x1 : wr.cell? ⟨g2, t * 3 + 1, none⟩ = some (.string (lkey num s.i)) := hrow 1 _ rfl
      have x2 : wr.cell? ⟨g2, t * 3 + 2, none⟩ = some (.string s.val) := hrow 2 _ rfl
      obtain ⟨so, hg3⟩ := goes_drop hg hs
      have SO := Lib.hid so; have G3 := Lib.hid hg3
      have PN := Lib.hid (show putsN (ss.take (t + 1)) = putsN (ss.take t) + (if s.k = 13 then 1 else 0) ∧ putsN (ss.take (t + 1)) ≤ putsN ss from ⟨putsN_snoc ss t s hs, by
        unfold putsN
        have : ((ss.take (t + 1)).filter fun s => decide (s.k = 13)).Sublist (ss.filter fun s => decide (s.k = 13)) := (List.take_sublist _ _).filter _
        exact this.length_le⟩)
      have LT := Lib.hid hlt
      have BB : Below wr.heap.size wr (wr.alloc (.cells (stC num s) 52)) := (Below.refl _ _).alloc (Nat.le_refl _) _
      have V5 := Lib.hid (hv.kept BB); have O5 := Lib.hid (ow_kept ho BB)
      have W5 := Lib.hid (World.grownBy.trans hw (World.grownBy_alloc wr (.cells (stC num s) 52) (some b)))
      have KP := Lib.hid (Bk.new wr 52 (stC num s))
      clear hg hv ho hw ht hlt hs e1 hrow so hg3 hg2 V O W BB
      as_aux_lemma =>
        go_upto_region 4 with fail
        change Code.wp _ _ _ _ (wr.alloc (.cells (stC num s) 52))
        obtain ⟨PB, hPB⟩ : ∃ PB, PB = wr.heap.size := ⟨_, rfl⟩
        rw [← hPB] at KP ⊢
        clear hPB x0 x1 x2
        generalize wr.alloc (.cells (stC num s) 52) = w5 at *
        have x0 : w5.cell? ⟨PB, 0, none⟩ = some (.int .i64 s.k) := KP.out.cell 0
        have x1 : w5.cell? ⟨PB, 1, none⟩ = some (.string (lkey num s.i)) := KP.out.cell 1
        have x2 : w5.cell? ⟨PB, 2, none⟩ = some (.string s.val) := KP.out.cell 2
        have IN := Lib.hid (show inN num s.i from ⟨OK.out.1, OK.out.2, SO.out.2.1⟩)
        have NXT := Lib.hid (show ∀ (wz : World) (M2 m2 : Nat), Lo wz B g b gs r M2 (stF F1 num s) m2 → M2 ≤ M + 40 * (t + 1) → m2 ≤ m + putsN (ss.take (t + 1)) → w5.grownBy wz (some b) → ∃ (t' : Nat) (F2 : Fo), Value.int .i64 ((t : Int) + 1) = .int .i64 t' ∧ t' ≤ n ∧ Goes num F2 (ss.drop t') F' ∧ Lo wz B g b gs r (M + 40 * t') F2 (m + putsN (ss.take t')) ∧ wz.ownsRow base 52 3 (.slice (some ⟨g2, 0, none⟩) n vc) n (stL num ss) ∧ w.grownBy wz (some b) from fun wz M2 m2 h1 h2 h3 h4 =>
          ⟨t + 1, _, by push_cast; rfl, LT.out, G3.out, h1.cast rfl h2 h3, ow_grown O5.out h4 (fun k hk => by cases hk; exact HB.out), World.grownBy.trans W5.out h4⟩)
        rcases SO.out with ⟨⟨hk, hF⟩ | ⟨hk, hF⟩ | ⟨hk, hv0, hF⟩, -, h16⟩
        · have CP := Lib.hid (lo_put V5.out (by have := HM.out; have := LT.out; unfold maxLen; omega) (by have := HP.out; have := PN.out; rw [hk] at this; simp at this; omega) num s.i IN.out s.val (by omega) hF)
          have EF := Lib.hid (show stF F1 num s = setF F1 num s.i (some s.val) by unfold stF; rw [hk]; rfl)
          have P2 := Lib.hid (show putsN (ss.take (t + 1)) = putsN (ss.take t) + 1 by have := PN.out.1; rw [hk] at this; simpa using this)
          rw [hk] at x0
          clear hF h16 hk SO PN
          as_aux_lemma =>
            go_wp2_with fail
            refine CP.out.mono ?_
            rintro e w6 ⟨u, rfl, hv, hg⟩
            have REL := Lib.hid (NXT.out w6 _ _ (by rw [EF.out]; exact hv) (by omega) (by have := P2.out; omega) hg)
            clear hv hg CP
            go_wp2
            exact ⟨REL.out, by have := LT.out; simp [RowKit.intOf]; omega⟩
        · have CP := Lib.hid (lo_set V5.out (by have := HM.out; have := LT.out; unfold maxLen; omega) num s.i IN.out s.val (by omega) hF)
          have EF := Lib.hid (show stF F1 num s = setF F1 num s.i (some s.val) by unfold stF; rw [hk]; rfl)
          have P2 := Lib.hid (show putsN (ss.take (t + 1)) = putsN (ss.take t) by have := PN.out.1; rw [hk] at this; simpa using this)
          rw [hk] at x0
          clear hF h16 hk SO PN
          as_aux_lemma =>
            go_wp2_with fail
            refine CP.out.mono ?_
            rintro e w6 ⟨u, rfl, hv, hg⟩
            have REL := Lib.hid (NXT.out w6 _ _ (by rw [EF.out]; exact hv) (by omega) (by have := P2.out; omega) hg)
            clear hv hg CP
            go_wp2
            exact ⟨REL.out, by have := LT.out; simp [RowKit.intOf]; omega⟩
        · have CP := Lib.hid (lo_cut V5.out (by have := HM.out; have := LT.out; unfold maxLen; omega) num s.i IN.out hF)
          have EF := Lib.hid (show stF F1 num s = setF F1 num s.i none by unfold stF; rw [hk]; rfl)
          have P2 := Lib.hid (show putsN (ss.take (t + 1)) = putsN (ss.take t) by have := PN.out.1; rw [hk] at this; simpa using this)
          rw [hk] at x0
          clear hF h16 hk SO PN
          as_aux_lemma =>
            go_wp2_with fail
            refine CP.out.mono ?_
            rintro e w6 ⟨u, rfl, hv, hg⟩
            have REL := Lib.hid (NXT.out w6 _ _ (by rw [EF.out]; exact hv) (by omega) (by have := P2.out; omega) hg)
            clear hv hg CP
            go_wp2
            exact ⟨REL.out, by have := LT.out; simp [RowKit.intOf]; omega⟩
    · obtain rfl : t = n := by omega
      have hni : ¬ (t : Int) < (t : Int) := by omega
      have E := Lib.hid (show Lo wr B g b gs r (M + 40 * t) F' (m + putsN ss) from by
        have e1 : ss.drop t = [] := by rw [HN.out]; exact List.drop_length
        have e2 : ss.take t = ss := by rw [HN.out]; exact List.take_length
        rw [e1] at hg
        obtain rfl := (show F' = F1 from hg)
        rw [e2] at hv
        exact hv)
      clear hlt hg hv ho hw ht V O
      go_wp2
      go_ret
      exact ⟨rfl, E.out, W.out⟩
end Go.Proofs.YtaiiimlmkigajaaGreat
namespace Go.Proofs.YtaiiimlmkigajaaGreat
open Go.RowKit Go.Maps Go.ChangeShapes Go.WideShapes Go.ChangeAt Go.Deep

theorem dtD_size {D : Do} (hs : ∀ n d, D n = some d → d.size ≤ 4096) (num : Int) : (dtD D num).size ≤ 4096 := by
  unfold dtD
  split
  · decide
  · split
    · decide
    · rename_i d hd; exact hs num d hd
set_option maxRecDepth 100000 in
set_option maxHeartbeats 4000000 in
theorem bcut_any {w : World} {B g b gs r M : Nat} {D : Do} {m : Nat} (h : Od w B g b gs r M D m) (num n : Int) :
    Calls Tryz.prog 28 #[.pointer (some ⟨g, 0, none⟩), .int .i64 1, .int .i64 num, .int .i64 n] w (ChD w D num (cutD D num n)) := by
  have CL := Lib.hid (bload_any h num)
  have SZ := Lib.hid (dtD_size h.sz num)
  clear h
  go_enter Tryz.func28, Tryz.ntmps28
  go_wp2_with fail
  refine CL.out.mono ?_
  rintro e w1 ⟨v, rfl, h1, h2, hb⟩
  have B1 := Lib.hid hb
  have s9 : (dtD D num).size ≤ 9223372036854775807 := by have := SZ.out; omega
  by_cases c0 : erD D num = 0
  · obtain ⟨hok, hd, ho⟩ := h2 c0
    by_cases c1 : n < 0
    · have F1 := Lib.hid (ch_bad (x := cutD D num n) (D := D) (num := num) (er := 1) (by unfold cutD; rw [if_neg (not_not_intro c0), if_pos (.inl c1)]) (by decide) hb)
      rw [c0]
      clear h1 h2 hb CL hok hd ho c0
      as_aux_lemma =>
        go_wp2
        refine bodyPost_ret (v := .tuple #[.slice none 0 0, .int .i64 1]) (by simp [results, Tryz.results28, go_sem]) rfl ?_
        exact F1.out
    by_cases c2 : ((dtD D num).size : Int) < n
    · have F1 := Lib.hid (ch_bad (x := cutD D num n) (D := D) (num := num) (er := 1) (by unfold cutD; rw [if_neg (not_not_intro c0), if_pos (.inr c2)]) (by decide) hb)
      rw [c0]
      clear h1 h2 hb CL hok hd ho c0
      as_aux_lemma =>
        go_wp2
        refine bodyPost_ret (v := .tuple #[.slice none 0 0, .int .i64 1]) (by simp [results, Tryz.results28, go_sem]) rfl ?_
        exact F1.out
    obtain ⟨k, rfl⟩ := Int.eq_ofNat_of_zero_le (show 0 ≤ n by omega)
    have E1 := Lib.hid (show cutD D num (k : Int) = (0, some ((dtD D num).extract 0 k)) by unfold cutD; rw [if_neg (not_not_intro c0), if_neg (by omega)]; rfl)
    have k1 : k ≤ (dtD D num).size := by omega
    obtain ⟨s, hs⟩ : ∃ s, s = (dtD D num).extract 0 k := ⟨_, rfl⟩
    have hsz : s.size ≤ 4096 := by rw [hs, ByteArray.size_extract]; have := SZ.out; omega
    have CS := Lib.hid (slice_any s (by omega) w1)
    have OK := Lib.hid hok; have HD := Lib.hid hd; have HO := Lib.hid ho; have HS := Lib.hid hs; have HZ := Lib.hid hsz
    rw [c0]
    obtain ⟨d, hdd⟩ : ∃ d, d = dtD D num := ⟨_, rfl⟩
    rw [← hdd] at s9 c2 k1 ⊢
    have es : d.extract 0 k = s := by rw [hdd, hs]
    have k1i : (k : Int) ≤ (d.size : Int) := by omega
    clear h1 h2 hb CL hok hd ho c0 hs hsz hdd
    as_aux_lemma =>
      go_wp2_with fail
      refine CS.out.mono ?_
      rintro e w2 ⟨sv, rfl, ho, hb⟩
      have p1 : pieceN s ≤ 256 := by have := HZ.out; unfold pieceN; omega
      have cl : (cutB s).length ≤ 256 := by rw [cutB_len]; exact p1
      have pd : (pcO (D num)).length ≤ 256 := by
        rw [HD.out]
        exact pcO_len _ (fun d hd => by injection hd with hd; rw [← hd]; exact SZ.out)
      have ho1 : TxOwn w1 w.heap.size v (pcO (D num)) := by rw [HD.out]; exact HO.out
      have CT := Lib.hid (steps_any num (by have h := OK.out; unfold okN at h; omega) v sv (pcO (D num)) (cutB s) w2 ((tx_row ho1 (by unfold maxLen; omega)).kept hb) (tx_row ho (by unfold maxLen; omega)) (by omega) (by omega))
      have B2 := Lib.hid (below_then B1.out hb B1.out.size)
      clear ho hb cl CS B1 p1 pd ho1
      as_aux_lemma =>
        go_wp2_with fail
        refine CT.out.mono ?_
        rintro e w3 ⟨v, rfl, ho, hb⟩
        have F1 := Lib.hid (show ChD w D num (cutD D num k) (.returned (.tuple #[v, .int .i64 0])) w3 from ⟨v, by rw [E1.out], fun h => absurd (by rw [E1.out]) h, fun _ => ⟨OK.out, by rw [E1.out, ← HS.out]; exact ow_mono ho B2.out.size⟩, below_then B2.out hb B2.out.size⟩)
        clear ho hb CT B2
        go_wp2
        refine bodyPost_ret (v := .tuple #[v, .int .i64 0]) (by simp [results, Tryz.results28, go_sem]) rfl ?_
        exact F1.out
  · have F1 := Lib.hid (ch_bad (x := cutD D num n) (D := D) (num := num) (er := erD D num) (by unfold cutD; rw [if_pos c0]) c0 hb)
    have c0b : (erD D num != 0) = true := by simp [c0]
    clear h1 h2 hb CL c0
    as_aux_lemma =>
      go_wp2
      refine bodyPost_ret (v := .tuple #[.slice none 0 0, .int .i64 (erD D num)]) (by simp [results, Tryz.results28, go_sem]) rfl ?_
      exact F1.out
set_option maxRecDepth 100000 in
set_option maxHeartbeats 8000000 in
theorem bwrite_any {w : World} {B g b gs r M : Nat} {D : Do} {m : Nat} (h : Od w B g b gs r M D m) (num at_ : Int) (val : ByteArray) (hval : val.size ≤ maxLen) :
    Calls Tryz.prog 27 #[.pointer (some ⟨g, 0, none⟩), .int .i64 1, .int .i64 num, .int .i64 at_, .string val] w (ChD w D num (wrD D num at_ val)) := by
  have CL := Lib.hid (bload_any h num)
  have SZ := Lib.hid (dtD_size h.sz num)
  have VB : val.size ≤ 9223372036854775807 := by unfold maxLen at hval; omega
  clear h hval
  go_enter Tryz.func27, Tryz.ntmps27
  go_wp2_with fail
  refine CL.out.mono ?_
  rintro e w1 ⟨v, rfl, h1, h2, hb⟩
  have B1 := Lib.hid hb
  have s9 : (dtD D num).size ≤ 9223372036854775807 := by have := SZ.out; omega
  by_cases c0 : erD D num = 0
  · obtain ⟨hok, hd, ho⟩ := h2 c0
    by_cases c1 : at_ < 0
    · have F1 := Lib.hid (ch_bad (x := wrD D num at_ val) (D := D) (num := num) (er := 1) (by unfold wrD; rw [if_neg (not_not_intro c0), if_pos (.inl c1)]) (by decide) hb)
      rw [c0]
      clear h1 h2 hb CL hok hd ho c0
      as_aux_lemma =>
        go_wp2
        refine bodyPost_ret (v := .tuple #[.slice none 0 0, .int .i64 1]) (by simp [results, Tryz.results27, go_sem]) rfl ?_
        exact F1.out
    by_cases c2 : ((dtD D num).size : Int) < at_
    · have F1 := Lib.hid (ch_bad (x := wrD D num at_ val) (D := D) (num := num) (er := 1) (by unfold wrD; rw [if_neg (not_not_intro c0), if_pos (.inr c2)]) (by decide) hb)
      rw [c0]
      clear h1 h2 hb CL hok hd ho c0
      as_aux_lemma =>
        go_wp2
        refine bodyPost_ret (v := .tuple #[.slice none 0 0, .int .i64 1]) (by simp [results, Tryz.results27, go_sem]) rfl ?_
        exact F1.out
    obtain ⟨k, rfl⟩ := Int.eq_ofNat_of_zero_le (show 0 ≤ at_ by omega)
    by_cases c3 : 64 < val.size
    · have F1 := Lib.hid (ch_bad (x := wrD D num k val) (D := D) (num := num) (er := 2) (by unfold wrD; rw [if_neg (not_not_intro c0), if_neg (by omega), if_pos (.inl c3)]) (by decide) hb)
      rw [c0]
      have c3i : (64 : Int) < (val.size : Int) := by omega
      clear h1 h2 hb CL hok hd ho c0
      as_aux_lemma =>
        go_wp2
        refine bodyPost_ret (v := .tuple #[.slice none 0 0, .int .i64 2]) (by simp [results, Tryz.results27, go_sem]) rfl ?_
        exact F1.out
    have c3i : ¬ (64 : Int) < (val.size : Int) := by omega
    have k4 : k ≤ 4096 := by have := SZ.out; omega
    have wr1 : wrap64 ((k : Int) + (val.size : Int)) = (k : Int) + (val.size : Int) := by unfold wrap64; omega
    by_cases c4 : (4096 : Int) < (k : Int) + (val.size : Int)
    · have F1 := Lib.hid (ch_bad (x := wrD D num k val) (D := D) (num := num) (er := 2) (by unfold wrD; rw [if_neg (not_not_intro c0), if_neg (by omega), if_pos (.inr c4)]) (by decide) hb)
      rw [c0]
      clear h1 h2 hb CL hok hd ho c0
      as_aux_lemma =>
        go_wp2
        refine bodyPost_ret (v := .tuple #[.slice none 0 0, .int .i64 2]) (by simp [results, Tryz.results27, go_sem]) rfl ?_
        exact F1.out
    obtain ⟨en, hen⟩ : ∃ en, en = min (k + val.size) (dtD D num).size := ⟨_, rfl⟩
    have E1 := Lib.hid (show wrD D num (k : Int) val = (0, some ((dtD D num).extract 0 k ++ val ++ (dtD D num).extract en (dtD D num).size)) by
      unfold wrD
      rw [if_neg (not_not_intro c0), if_neg (by omega), if_neg (by omega), hen]; rfl)
    have k1 : k ≤ (dtD D num).size := by omega
    obtain ⟨s, hs⟩ : ∃ s, s = (dtD D num).extract 0 k ++ val ++ (dtD D num).extract en (dtD D num).size := ⟨_, rfl⟩
    have hsz : s.size ≤ 4096 := by
      rw [hs, ByteArray.size_append, ByteArray.size_append, ByteArray.size_extract, ByteArray.size_extract]; have := SZ.out; omega
    have CS := Lib.hid (fun wx => slice_any s (by omega) wx)
    have OK := Lib.hid hok; have HD := Lib.hid hd; have HO := Lib.hid ho; have HS := Lib.hid hs; have HZ := Lib.hid hsz; have HE := Lib.hid hen
    rw [c0]
    obtain ⟨d, hdd⟩ : ∃ d, d = dtD D num := ⟨_, rfl⟩
    have DD := Lib.hid hdd
    rw [← hdd] at s9 c2 k1 hen hs ⊢
    have k1i : (k : Int) ≤ (d.size : Int) := by omega
    have e1i : min ((k : Int) + (val.size : Int)) (d.size : Int) = (en : Int) := by rw [hen]; omega
    have e2 : en ≤ d.size := by omega
    have e2i : (en : Int) ≤ (d.size : Int) := by omega
    clear h1 h2 hb CL hok hd ho c0 hsz hdd hen
    as_aux_lemma =>
      go_upto_region 9 with fail
      refine wp_region_held (S := fun _ => True) (by kernel_rfl) ?_
      refine held_take (fuel := 14) (i := 0) 52 rfl rfl (by kernel_rfl) (by kernel_rfl) (by kernel_rfl) (fun _ _ _ h => h) (held_move _ rfl (by kernel_rfl)) True.intro ?_
      simp only [Act.put, Act.eval, List.setIfInBounds_toArray, List.set_cons_succ, List.set_cons_zero]
      refine held_take (fuel := 13) (i := 1) 53 rfl rfl (by kernel_rfl) (by kernel_rfl) (by kernel_rfl) (fun _ _ _ h => h) (held_move _ rfl (by kernel_rfl)) True.intro ?_
      simp only [Act.put, Act.eval, List.setIfInBounds_toArray, List.set_cons_succ, List.set_cons_zero]
      refine held_take (fuel := 12) (i := 2) 54 rfl rfl (by kernel_rfl) (by kernel_rfl) (by kernel_rfl) (fun _ _ _ h => h) (held_move _ rfl (by kernel_rfl)) True.intro ?_
      simp only [Act.put, Act.eval, List.setIfInBounds_toArray, List.set_cons_succ, List.set_cons_zero]
      refine held_take (fuel := 11) (i := 3) 55 rfl rfl (by kernel_rfl) (by kernel_rfl) (by kernel_rfl) (fun _ _ _ h => h) (held_move _ rfl (by kernel_rfl)) True.intro ?_
      simp only [Act.put, Act.eval, List.setIfInBounds_toArray, List.set_cons_succ, List.set_cons_zero]
      refine held_take (fuel := 10) (i := 4) (v := .string (d.extract 0 k)) 56 rfl rfl (by kernel_rfl) (by kernel_rfl) (by kernel_rfl) (fun _ _ _ h => h) (by refine .inl ⟨by kernel_rfl, fun wx hx => ?_⟩; unfold execOp; go_simp) True.intro ?_
      simp only [Act.put, Act.eval, List.setIfInBounds_toArray, List.set_cons_succ, List.set_cons_zero]
      refine held_take (fuel := 9) (i := 5) 57 rfl rfl (by kernel_rfl) (by kernel_rfl) (by kernel_rfl) (fun _ _ _ h => h) (held_move _ rfl (by kernel_rfl)) True.intro ?_
      simp only [Act.put, Act.eval, List.setIfInBounds_toArray, List.set_cons_succ, List.set_cons_zero]
      refine held_take (fuel := 8) (i := 6) (v := .string (d.extract 0 k ++ val)) 58 rfl rfl (by kernel_rfl) (by kernel_rfl) (by kernel_rfl) (fun _ _ _ h => h) (by refine .inl ⟨by kernel_rfl, fun wx hx => ?_⟩; unfold execOp; go_simp; omega) True.intro ?_
      simp only [Act.put, Act.eval, List.setIfInBounds_toArray, List.set_cons_succ, List.set_cons_zero]
      refine held_take (fuel := 7) (i := 7) 59 rfl rfl (by kernel_rfl) (by kernel_rfl) (by kernel_rfl) (fun _ _ _ h => h) (held_move _ rfl (by kernel_rfl)) True.intro ?_
      simp only [Act.put, Act.eval, List.setIfInBounds_toArray, List.set_cons_succ, List.set_cons_zero]
      refine held_take (fuel := 6) (i := 8) 60 rfl rfl (by kernel_rfl) (by kernel_rfl) (by kernel_rfl) (fun _ _ _ h => h) (held_move _ rfl (by kernel_rfl)) True.intro ?_
      simp only [Act.put, Act.eval, List.setIfInBounds_toArray, List.set_cons_succ, List.set_cons_zero]
      refine held_take (fuel := 5) (i := 9) (v := .string (d.extract en d.size)) 61 rfl rfl (by kernel_rfl) (by kernel_rfl) (by kernel_rfl) (fun _ _ _ h => h) (by refine .inl ⟨by kernel_rfl, fun wx hx => ?_⟩; unfold execOp; go_simp) True.intro ?_
      simp only [Act.put, Act.eval, List.setIfInBounds_toArray, List.set_cons_succ, List.set_cons_zero]
      refine held_take (fuel := 4) (i := 10) (v := .string s) 62 rfl rfl (by kernel_rfl) (by kernel_rfl) (by kernel_rfl) (fun _ _ _ h => h) (by refine .inl ⟨by kernel_rfl, fun wx hx => ?_⟩; unfold execOp; go_simp; omega) True.intro ?_
      simp only [Act.put, Act.eval, List.setIfInBounds_toArray, List.set_cons_succ, List.set_cons_zero]
      refine held_ready (fuel := 3) 11 (by kernel_rfl) ?_
      refine held_call rfl (by kernel_rfl) 63 rfl 38 #[.string s] (by unfold execOp; go_simp) ((CS.out _).mono ?_)
      rintro e w2 ⟨sv, rfl, ho, hb⟩
      refine ⟨sv, rfl, trivial, ?_⟩
      simp only [Act.put, Act.eval, List.setIfInBounds_toArray, List.set_cons_succ, List.set_cons_zero]
      have p1 : pieceN s ≤ 256 := by have := HZ.out; unfold pieceN; omega
      have cl : (cutB s).length ≤ 256 := by rw [cutB_len]; exact p1
      have pd : (pcO (D num)).length ≤ 256 := by
        rw [HD.out]
        exact pcO_len _ (fun d hd => by injection hd with hd; rw [← hd]; exact SZ.out)
      have ho1 : TxOwn w1 w.heap.size v (pcO (D num)) := by rw [HD.out]; exact HO.out
      have hbw : Below w1.heap.size w1 w2 := ⟨hb.os, hb.tape, hb.output, hb.size, hb.block⟩
      have ho2 : TxOwn w2 w1.heap.size sv (cutB s) := ho
      have CT := Lib.hid (steps_any num (by have h := OK.out; unfold okN at h; omega) v sv (pcO (D num)) (cutB s) w2 ((tx_row ho1 (by unfold maxLen; omega)).kept hbw) (tx_row ho2 (by unfold maxLen; omega)) (by omega) (by omega))
      have B2 := Lib.hid (below_then B1.out hbw B1.out.size)
      clear ho hb cl CS B1 p1 pd ho1 hbw ho2
      refine held_ready (fuel := 2) 12 (by kernel_rfl) ?_
      refine held_call rfl (by kernel_rfl) 64 rfl 37 #[.int .i64 num, v, sv] (by unfold execOp; go_simp) (CT.out.mono ?_)
      rintro e w3 ⟨v3, rfl, ho, hb⟩
      refine ⟨v3, rfl, trivial, ?_⟩
      simp only [Act.put, Act.eval, List.setIfInBounds_toArray, List.set_cons_succ, List.set_cons_zero]
      have F1 := Lib.hid (show ChD w D num (wrD D num k val) (.returned (.tuple #[v3, .int .i64 0])) w3 from ⟨v3, by rw [E1.out], fun h => absurd (by rw [E1.out]) h, fun _ => ⟨OK.out, by rw [E1.out, ← HS.out]; exact ow_mono ho B2.out.size⟩, below_then B2.out hb B2.out.size⟩)
      clear ho hb CT B2
      refine held_take (fuel := 1) (i := 13) 10 rfl rfl (by kernel_rfl) (by kernel_rfl) (by kernel_rfl) (fun _ _ _ h => h) (held_assign _ rfl (by kernel_rfl)) True.intro ?_
      simp only [Act.put, Act.eval, List.setIfInBounds_toArray, List.set_cons_succ, List.set_cons_zero]
      refine held_take (fuel := 0) (i := 14) 11 rfl rfl (by kernel_rfl) (by kernel_rfl) (by kernel_rfl) (fun _ _ _ h => h) (held_assign _ rfl (by kernel_rfl)) True.intro ?_
      refine wpAnyH_done (by kernel_rfl) ?_ _
      simp only [Act.put, Act.eval, List.setIfInBounds_toArray, List.set_cons_succ, List.set_cons_zero]
      go_wp2
      refine bodyPost_ret (v := .tuple #[v3, .int .i64 0]) (by simp [results, Tryz.results27, go_sem]) rfl ?_
      exact F1.out
  · have F1 := Lib.hid (ch_bad (x := wrD D num at_ val) (D := D) (num := num) (er := erD D num) (by unfold wrD; rw [if_pos c0]) c0 hb)
    have c0b : (erD D num != 0) = true := by simp [c0]
    clear h1 h2 hb CL c0
    as_aux_lemma =>
      go_wp2
      refine bodyPost_ret (v := .tuple #[.slice none 0 0, .int .i64 (erD D num)]) (by simp [results, Tryz.results27, go_sem]) rfl ?_
      exact F1.out
end Go.Proofs.YtaiiimlmkigajaaGreat
namespace Go.Proofs.YtaiiimlmkigajaaGreat
open Go.RowKit Go.Maps Go.ChangeShapes Go.WideShapes Go.ChangeAt Go.Deep

theorem er_empty (num : Int) (h : okN num) : erD (fun _ => none) num = 150 ∧ dtD (fun _ => none) num = ⟨#[]⟩ := er_no h rfl
theorem new_empty (D : Do) (num : Int) (h : okN num) (hd : D num = none) : newD D num = (0, some ⟨#[]⟩) := by
  unfold newD; rw [if_neg (not_not_intro h), hd]
theorem cut_empty : cutB ⟨#[]⟩ = [⟨#[]⟩] := by
  unfold cutB
  rw [show pieceN ⟨#[]⟩ = 1 from by decide]
  show [pieceB ⟨#[]⟩ 0] = _
  rw [(ba_empty_iff (pieceB ⟨#[]⟩ 0)).2 (by rw [pieceB_size]; decide)]
theorem step_new : stepL (pcO none) (pcO (some ⟨#[]⟩)) (max (pcO none).length (pcO (some ⟨#[]⟩)).length) = [⟨13, 0, ⟨#[]⟩⟩] := by
  show stepL [] (cutB ⟨#[]⟩) (max 0 (cutB ⟨#[]⟩).length) = _
  rw [cut_empty]
  rfl
theorem key3 : lkey 3 0 = ⟨#[0, 3, 0, 0]⟩ := by decide
set_option maxRecDepth 100000 in
set_option maxHeartbeats 8000000 in
theorem awake17 (w : World) : Calls Tryz.prog 4 #[] w fun e w' => e = .returned (.bool true) ∧ Below w.heap.size w w' := by
  have CV := Lib.hid (volume17 w)
  go_enter Tryz.func4, Tryz.ntmps4
  go_wp2_with fail
  refine CV.out.mono ?_
  rintro e w1 ⟨g, b, gs, r, rfl, hv, hb⟩
  have B1 := Lib.hid hb
  have V1 := Lib.hid hv
  have CN := Lib.hid (bnew_any hv 3)
  clear hv hb CV
  as_aux_lemma =>
    go_wp2_with fail
    refine CN.out.mono ?_
    rintro e w2 ⟨v, rfl, -, h2, hb⟩
    have e0 := new_empty (fun _ => none) 3 (by decide) rfl
    obtain ⟨hok, ho⟩ := h2 (by rw [e0])
    rw [e0] at ho
    have ho' : StOwn w2 w1.heap.size v 3 [⟨13, 0, ⟨#[]⟩⟩] := by
      have := ho
      rw [show (0, some (⟨#[]⟩ : ByteArray)).2 = some ⟨#[]⟩ from rfl] at this
      rw [← step_new]
      exact this
    obtain ⟨g2, cap, rfl, -, hrow⟩ := st_at (n := 1) (show w2.ownsRow w1.heap.size 52 3 v 1 (stL 3 [⟨13, 0, ⟨#[]⟩⟩]) from ho') (i := 0) (by decide) rfl
    rw [e0]
    have V2 := Lib.hid (V1.out.kept hb); have B2 := Lib.hid (below_then B1.out hb B1.out.size)
    have CL := Lib.hid (blen_any V2.out 3)
    have R2 := Lib.hid hrow
    clear e0 hok ho h2 hb CN V1 B1 ho' hrow
    as_aux_lemma =>
      go_wp2_with fail
      refine CL.out.mono ?_
      rintro e w3 ⟨rfl, hb⟩
      have R3 : ∀ j u, (stC 3 ⟨13, 0, ⟨#[]⟩⟩).toList[j]? = some u → w3.cell? ⟨g2, 0 * 3 + j, none⟩ = some u := fun j u hu => by
        have h1 := R2.out j u hu
        rw [hb.cell (World.block_lt_of_cell? w2 _ h1)]
        exact h1
      have x0 : w3.cell? ⟨g2, 0, none⟩ = some (.int .i64 13) := R3 0 _ rfl
      have x1 : w3.cell? ⟨g2, 1, none⟩ = some (.string ⟨#[0, 3, 0, 0]⟩) := by rw [← key3]; exact R3 1 _ rfl
      have x2 : w3.cell? ⟨g2, 2, none⟩ = some (.string ⟨#[]⟩) := R3 2 _ rfl
      have B3 := Lib.hid (below_then B2.out hb B2.out.size)
      rw [(er_empty 3 (by decide)).1, (er_empty 3 (by decide)).2]
      clear hb CL V2 R2 R3 B2
      as_aux_lemma =>
        go_wp2
        go_ret
        exact ⟨rfl, B3.out⟩
theorem bits255 (x : Int) (h : 0 ≤ x ∧ x ≤ 65535) : bits .and .i64 x 255 = x % 256 := by
  obtain ⟨a, rfl⟩ := Int.eq_ofNat_of_zero_le h.1
  have e : (BitVec.ofInt 64 (a : Int) &&& BitVec.ofInt 64 255).toNat = a % 256 := by
    rw [BitVec.toNat_and, BitVec.toNat_ofInt, BitVec.toNat_ofInt]
    have h1 : ((a : Int) % ((2 ^ 64 : Nat) : Int)).toNat = a := by omega
    rw [h1]
    exact Nat.and_two_pow_sub_one_eq_mod a 8
  show IntKind.i64.wrap (((BitVec.ofInt 64 (a : Int) &&& BitVec.ofInt 64 255).toNat : Nat) : Int) = _
  rw [e, IntWalk.i64_in _ (by omega)]
  omega
set_option maxRecDepth 100000 in
theorem refKey_any (n p : Int) (w : World) (hn : 0 ≤ n ∧ n ≤ 65535) (hp : 0 ≤ p ∧ p ≤ 65535) :
    Calls Tryz.prog 30 #[.int .i64 n, .int .i64 p] w fun e w' => e = .returned (.string (lkey n p)) ∧ Below w.heap.size w w' := by
  have B0 := Lib.hid ((Below.refl w.heap.size w).alloc (Nat.le_refl _) (.cells #[.int .u8 ((n / 256) % 256), .int .u8 (n % 256), .int .u8 ((p / 256) % 256), .int .u8 (p % 256)] 5))
  have a1 := bits255 (n / 256) (by omega)
  have a2 := bits255 n hn
  have a3 := bits255 (p / 256) (by omega)
  have a4 := bits255 p hp
  clear hn hp
  go_enter Tryz.func30, Tryz.ntmps30
  go_wp2_with (first | (refine slice4_b rfl _ _ _ _ rfl ((n / 256) % 256) (n % 256) ((p / 256) % 256) (p % 256) rfl rfl rfl rfl ?_) | (refine conv_l rfl _ rfl w.heap.size n p rfl (Bk.new w _ _) ?_))
  go_ret
  exact ⟨rfl, B0.out⟩
end Go.Proofs.YtaiiimlmkigajaaGreat
namespace Go.Proofs.YtaiiimlmkigajaaGreat
open Go.RowKit Go.ChangeShapes Go.WideShapes Go.ChangeAt Go.Deep

/-- An operation. -/
structure Opn where
  k : Int
  st : Int
  key : ByteArray
  val : ByteArray
  num : Int
  at_ : Int
  len : Int
def Opn.cs (o : Opn) : Array Value := #[.int .i64 o.k, .int .i64 o.st, .string o.key, .string o.val, .int .i64 o.num, .int .i64 o.at_, .int .i64 o.len]
structure OpOk (o : Opn) : Prop where
  val : o.val.size ≤ maxLen
  key : o.key.size ≤ maxLen
  num : in64 o.num
  at_ : in64 o.at_
  len : in64 o.len
section
variable {H : Type} {enc : TypeId × Value → H} {w : World} {base : Nat} {held : Bool}
set_option maxRecDepth 100000 in
theorem op_trod {n : Nat} {l : List Value} {x : DataW H × List MemPlace} (hlen : l.length = 7) (h : DataW.trod enc Tryz.prog w base (fun _ => true) held n 33 l = some x) :
    ∃ o : Opn, l = o.cs.toList ∧ OpOk o := by
  have cI : Tryz.prog.cellsOf 3 = 1 := by kernel_rfl
  have cS : Tryz.prog.cellsOf 9 = 1 := by kernel_rfl
  obtain ⟨xs, m, _, _, _, hl, hg⟩ := DataW.trod_struct Tryz.underlying33 h
  match l, hlen with
  | [c0, c1, c2, c3, c4, c5, c6], _ =>
    have hl7 : xs.length = 7 := hl
    generalize hL : [c0, c1, c2, c3, c4, c5, c6] = L at hg
    have g0 : DataW.trod enc Tryz.prog w base (fun _ => true) held m 3 (L.drop 0 |>.take (Tryz.prog.cellsOf 3)) = xs[0]? := hg 0 _ rfl
    have g1 : DataW.trod enc Tryz.prog w base (fun _ => true) held m 3 (L.drop 1 |>.take (Tryz.prog.cellsOf 3)) = xs[1]? := hg 1 _ rfl
    have g2 : DataW.trod enc Tryz.prog w base (fun _ => true) held m 9 (L.drop 2 |>.take (Tryz.prog.cellsOf 9)) = xs[2]? := hg 2 _ rfl
    have g3 : DataW.trod enc Tryz.prog w base (fun _ => true) held m 9 (L.drop 3 |>.take (Tryz.prog.cellsOf 9)) = xs[3]? := hg 3 _ rfl
    have g4 : DataW.trod enc Tryz.prog w base (fun _ => true) held m 3 (L.drop 4 |>.take (Tryz.prog.cellsOf 3)) = xs[4]? := hg 4 _ rfl
    have g5 : DataW.trod enc Tryz.prog w base (fun _ => true) held m 3 (L.drop 5 |>.take (Tryz.prog.cellsOf 3)) = xs[5]? := hg 5 _ rfl
    have g6 : DataW.trod enc Tryz.prog w base (fun _ => true) held m 3 (L.drop 6 |>.take (Tryz.prog.cellsOf 3)) = xs[6]? := hg 6 _ rfl
    subst hL
    rw [cI] at g0 g1 g4 g5 g6
    rw [cS] at g2 g3
    obtain ⟨y0, e0⟩ := len_ex hl7 0 (by omega)
    obtain ⟨y1, e1⟩ := len_ex hl7 1 (by omega)
    obtain ⟨y2, e2⟩ := len_ex hl7 2 (by omega)
    obtain ⟨y3, e3⟩ := len_ex hl7 3 (by omega)
    obtain ⟨y4, e4⟩ := len_ex hl7 4 (by omega)
    obtain ⟨y5, e5⟩ := len_ex hl7 5 (by omega)
    obtain ⟨y6, e6⟩ := len_ex hl7 6 (by omega)
    obtain ⟨n0, hn0, _, z0⟩ := DataW.trod_int Tryz.underlying3 (g0.trans e0)
    obtain ⟨n1, hn1, _, z1⟩ := DataW.trod_int Tryz.underlying3 (g1.trans e1)
    obtain ⟨n4, hn4, _, z4⟩ := DataW.trod_int Tryz.underlying3 (g4.trans e4)
    obtain ⟨n5, hn5, _, z5⟩ := DataW.trod_int Tryz.underlying3 (g5.trans e5)
    obtain ⟨n6, hn6, _, z6⟩ := DataW.trod_int Tryz.underlying3 (g6.trans e6)
    obtain ⟨n2, hn2, _, z2⟩ := DataW.trod_string Tryz.underlying9 (g2.trans e2)
    obtain ⟨n3, hn3, _, z3⟩ := DataW.trod_string Tryz.underlying9 (g3.trans e3)
    simp at hn0 hn1 hn2 hn3 hn4 hn5 hn6
    subst hn0 hn1 hn2 hn3 hn4 hn5 hn6
    exact ⟨⟨n0, n1, n2, n3, n4, n5, n6⟩, rfl, z3, z2, int_in z4, int_in z5, int_in z6⟩
set_option maxRecDepth 100000 in
theorem read_op {r : Reach} {b0 : Nat} {d : DataW H} {p : List MemPlace} {v : Value}
    (hv : Value.okWide Tryz.prog w r b0 33 v) (h : DataW.Trod enc Tryz.prog w base (fun _ => true) held 33 v d p) : ∃ o : Opn, v = .agg o.cs ∧ OpOk o := by
  obtain ⟨cs, rfl, hsz⟩ := okWide_struct Tryz.underlying33 hv
  have h7 : Tryz.prog.cellsOf 33 = 7 := by kernel_rfl
  rw [h7] at hsz
  obtain ⟨fuel, hf⟩ := h
  obtain ⟨o, ho, hk⟩ := op_trod (l := cs.toList) (by simpa using hsz) hf
  exact ⟨o, congrArg Value.agg (Array.ext' ho), hk⟩
/-- Operations in a slice that came in. -/
structure OpsIn (w : World) (v : Value) (l : List Opn) : Prop where
  at_ : ∃ a c, v = .slice a l.length c ∧ (0 < l.length → ∃ b off, a = some (⟨b, off, none⟩ : Addr) ∧ b < w.heap.size ∧ ∀ i p, l[i]? = some p → w.rangeAt b (off + i * 7) p.cs.toList)
  len : l.length ≤ maxLen
  bd : ∀ i ∈ l, OpOk i
theorem OpsIn.kept {w w' : World} {v : Value} {l : List Opn} (h : OpsIn w v l) (hb : Below w.heap.size w w') : OpsIn w' v l := by
  obtain ⟨a, c, e, h1⟩ := h.at_
  refine ⟨⟨a, c, e, fun hm => ?_⟩, h.len, h.bd⟩
  obtain ⟨b, off, e1, hlt, hc⟩ := h1 hm
  exact ⟨b, off, e1, Nat.lt_of_lt_of_le hlt hb.size, fun i p hi j u hu => (hb.cell (p := ⟨b, off + i * 7 + j, none⟩) hlt).trans (hc i p hi j u hu)⟩
set_option maxRecDepth 100000 in
theorem read_ops {r : Reach} {b0 : Nat} {d : DataW H} {p : List MemPlace} {v : Value}
    (hv : Value.okWide Tryz.prog w r b0 22 v) (h : DataW.Trod enc Tryz.prog w base (fun _ => true) held 22 v d p) : ∃ l : List Opn, OpsIn w v l := by
  obtain ⟨fuel, hf⟩ := h
  obtain ⟨a0, len0, cap0, rfl⟩ := okWide_slice Tryz.underlying22 hv
  have hf' : DataW.trod enc Tryz.prog w base (fun _ => true) held fuel 22 [.slice a0 len0 cap0] = some (d, p) := hf
  obtain ⟨a, len, cap, hve, h1, h2, _, _, L, hL, hat⟩ := rows_trod (C := 7) Tryz.underlying22 (by kernel_rfl) (by omega) hf'
  rw [hve]
  have him : ∀ i, ∃ mm : Opn, i < len → L i = mm.cs.toList ∧ OpOk mm := by
    intro i
    by_cases hi : i < len
    · obtain ⟨hlen, n, y, ht⟩ := hL i hi
      obtain ⟨mm, h1⟩ := op_trod hlen ht
      exact ⟨mm, fun _ => h1⟩
    · exact ⟨⟨0, 0, ⟨#[]⟩, ⟨#[]⟩, 0, 0, 0⟩, fun h => absurd h hi⟩
  have hll : ((List.range len).map fun i => (him i).choose).length = len := by simp
  refine ⟨(List.range len).map fun i => (him i).choose, ⟨a, cap, by rw [hll], fun h0 => ?_⟩, by rw [hll]; omega, fun i hi => ?_⟩
  · rw [hll] at h0
    obtain ⟨b, off, e1, hlt, hc⟩ := hat h0
    refine ⟨b, off, e1, hlt, fun i p hi j u hu => ?_⟩
    have hil : i < len := by have := (List.getElem?_eq_some_iff.1 hi).1; rwa [hll] at this
    rw [List.getElem?_map, List.getElem?_range hil] at hi
    simp at hi
    subst hi
    exact hc i j u hil (by rw [((him i).choose_spec hil).1]; exact hu)
  · obtain ⟨k, hk, rfl⟩ := List.mem_map.1 hi
    exact ((him k).choose_spec (List.mem_range.1 hk)).2
end
end Go.Proofs.YtaiiimlmkigajaaGreat
namespace Go.Proofs.YtaiiimlmkigajaaGreat
open Go.RowKit Go.Maps Go.ChangeShapes Go.WideShapes Go.ChangeAt Go.Deep

theorem cut_land (h : ByteArray) (hs : h.size ≤ 4096) : ∀ v, v ∈ pcO (some h) → v.size ≤ 16 := cutB_16 h
theorem pcO_16 (o : Option ByteArray) : ∀ v, v ∈ pcO o → v.size ≤ 16 := by
  cases o with
  | none => intro v hv; cases hv
  | some d => exact cutB_16 d
/-- The steps of a change, done. -/
theorem ch_land {w : World} {B g b gs r M : Nat} {D : Do} {m : Nat} (h : Od w B g b gs r M D m) (num : Int) (hok : okN num) (o : Option ByteArray) (hx : ∀ d, o = some d → d.size ≤ 4096) (v : Value) (base : Nat)
    (ho : StOwn w base v num (stepL (pcO (D num)) (pcO o) (max (pcO (D num)).length (pcO o).length))) (hbase : b < base) (hM : M + 10240 < 1000000) (k : Nat) (hk : (pcO o).length ≤ (pcO (D num)).length + k) (hm : m + k ≤ 500) :
    Calls Tryz.prog 16 #[.pointer (some ⟨g, 0, none⟩), v] w fun e w' => e = .returned (.bool true) ∧ Od w' B g b gs r (M + 10240) (setD D num o) (m + k) ∧ w.grownBy w' (some b) := by
  have l1 := pcO_len (D num) (fun d hd => h.sz num d hd)
  have l2 := pcO_len o hx
  have sl := stepL_len (pcO (D num)) (pcO o) (max (pcO (D num)).length (pcO o).length)
  have pn := puts_step (pcO (D num)) (pcO o) (max (pcO (D num)).length (pcO o).length)
  have go := steps_go (fo D) num (pcO (D num)) (pcO o) (by omega) (by omega) (pcO_16 o)
  rw [objF_self (fun i => rfl), fo_set] at go
  refine (land17 h.lo num hok v _ base ho hbase go (by omega) (by omega)).mono ?_
  rintro e w' ⟨he, hl, hg⟩
  refine ⟨he, ⟨hl.cast rfl (by omega) (by omega), fun n d hd => ?_⟩, hg⟩
  unfold setD at hd
  by_cases e : n = num
  · rw [if_pos e] at hd; exact hx d hd
  · rw [if_neg e] at hd; exact h.sz n d hd
theorem pcO_grow {d d' : ByteArray} (h : d'.size ≤ d.size + 64) : (pcO (some d')).length ≤ (pcO (some d)).length + 4 := by
  show (cutB d').length ≤ (cutB d).length + 4
  rw [cutB_len, cutB_len]
  unfold pieceN
  omega
theorem erD_zero {D : Do} {num : Int} (h : erD D num = 0) : okN num ∧ D num = some (dtD D num) := by
  by_cases hn : okN num
  · cases hd : D num with
    | none => rw [(er_no hn hd).1] at h; exact absurd h (by decide)
    | some d => exact ⟨hn, by rw [(er_yes hn hd).2]⟩
  · rw [(er_bad hn).1] at h; exact absurd h (by decide)
/-- A write that is let: what it makes. -/
theorem wrD_zero {D : Do} {num at_ : Int} {val : ByteArray} (h : (wrD D num at_ val).1 = 0) (hs : ∀ n d, D n = some d → d.size ≤ 4096) : okN num ∧ D num = some (dtD D num) ∧ ∃ d', (wrD D num at_ val).2 = some d' ∧ d'.size ≤ 4096 ∧ d'.size ≤ (dtD D num).size + 64 := by
  unfold wrD at h ⊢
  by_cases c0 : erD D num = 0
  · obtain ⟨h1, h2⟩ := erD_zero c0
    have hz := hs _ _ h2
    rw [if_neg (not_not_intro c0)] at h ⊢
    by_cases c1 : at_ < 0 ∨ ((dtD D num).size : Int) < at_
    · rw [if_pos c1] at h; exact absurd h (by decide)
    · rw [if_neg c1] at h ⊢
      by_cases c2 : 64 < val.size ∨ 4096 < at_ + val.size
      · rw [if_pos c2] at h; exact absurd h (by decide)
      · rw [if_neg c2]
        refine ⟨h1, h2, _, rfl, ?_, ?_⟩
        · rw [ByteArray.size_append, ByteArray.size_append, ByteArray.size_extract, ByteArray.size_extract]; omega
        · rw [ByteArray.size_append, ByteArray.size_append, ByteArray.size_extract, ByteArray.size_extract]; omega
  · rw [if_pos c0] at h; exact absurd h c0
/-- A write behind all that stands. -/
theorem wr_end {D : Do} {num : Int} {d val : ByteArray} (hok : okN num) (hd : D num = some d) (hv : val.size ≤ 64) (hz : d.size + val.size ≤ 4096) : wrD D num d.size val = (0, some (d ++ val)) := by
  obtain ⟨e1, e2⟩ := er_yes hok hd
  unfold wrD
  rw [if_neg (not_not_intro e1), e2, if_neg (by omega), if_neg (by omega)]
  congr 2
  refine ba_list ?_
  rw [ByteArray.data_append, ByteArray.data_append, Array.toList_append, Array.toList_append, ext_list, ext_list, ByteArray.data_append, Array.toList_append]
  have hl : d.data.toList.length = d.size := by rw [Array.length_toList]; rfl
  have t1 : d.data.toList.take d.size = d.data.toList := List.take_of_length_le (by omega)
  have t2 : d.data.toList.drop d.size = [] := List.drop_of_length_le (by omega)
  rw [show ((d.size : Int)).toNat = d.size from rfl, show min (d.size + val.size) d.size = d.size by omega, t1, t2]
  simp
/-- What is read in part. -/
theorem rd_part {D : Do} {num : Int} {d : ByteArray} (hok : okN num) (hd : D num = some d) (a n : Nat) (h : a + n ≤ d.size) : rdD D num a n = (d.extract a (a + n), 0) := by
  obtain ⟨e1, e2⟩ := er_yes hok hd
  unfold rdD
  rw [if_neg (not_not_intro e1), e2, if_neg (by omega)]
  rfl
end Go.Proofs.YtaiiimlmkigajaaGreat
