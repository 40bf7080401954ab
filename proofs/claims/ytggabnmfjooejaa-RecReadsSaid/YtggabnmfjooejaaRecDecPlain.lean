/- Records back from bytes: what is read. -/
import Derived.Test.YtggabnmfjooejaaRecApartPlain
import Derived.Test.YtggabnmfjooejaaRecDec1
set_option linter.unusedVariables false
set_option linter.unusedSimpArgs false
namespace Go.Proofs.Ytggabnmfjooejaa
open Go.RowKit

theorem ba_nil_app (a : ByteArray) : (⟨#[]⟩ : ByteArray) ++ a = a := Oct.nil_app a
theorem rbytes_fwd {st : Oct.Rs} {R : ByteArray} {n : Nat} (h : (Oct.rbytes st n).2 = some R) : st = some ((Oct.rbytes st n).1 ++ R) ∧ (Oct.rbytes st n).1.size = n := by
  cases st with
  | none => simp [Oct.rbytes] at h
  | some s =>
    by_cases hc : (n : Int) < 0 ∨ (s.size : Int) < n
    · simp only [Oct.rbytes, if_pos hc] at h; cases h
    · simp only [Oct.rbytes, if_neg hc, Int.toNat_natCast] at h ⊢
      injection h with h
      subst h
      refine ⟨?_, by rw [ex_size _ _ _ (by omega)]; omega⟩
      rw [ex_app s 0 n s.size (by omega) (by omega), ex_all]
theorem rnum_fwd {st : Oct.Rs} {R : ByteArray} {k : Nat} (h1 : 1 ≤ k) (h8 : k ≤ 8) (h : (Oct.rnum st k).2 = some R) : st = some (Oct.str (Oct.rnum st k).1 k ++ R) ∧ (Oct.rnum st k).1 < 256 ^ k := by
  cases st with
  | none => simp [Oct.rnum] at h
  | some s =>
    have hc : ¬ ((k : Int) < 1 ∨ 8 < (k : Int)) := by omega
    simp only [Oct.rnum, if_neg hc] at h ⊢
    obtain ⟨e1, e2⟩ := rbytes_fwd h
    have hv : Oct.nval (Oct.rbytes (some s) k).1 = Oct.sval (Oct.rbytes (some s) k).1 := by unfold Oct.nval; rw [e2, if_pos ⟨h1, h8⟩]
    rw [hv, str_sval _ _ e2]
    refine ⟨e1, ?_⟩
    have := Oct.sval_lt (Oct.rbytes (some s) k).1
    rw [e2] at this
    exact this
theorem fwd1 {st : Oct.Rs} {R : ByteArray} (h : rnx st 1 = some R) : st = some (Oct.str (rint st 1).toNat 1 ++ R) ∧ 0 ≤ rint st 1 ∧ rint st 1 < 256 := by
  obtain ⟨e1, e2⟩ := rnum_fwd (k := 1) (by omega) (by omega) h
  have hr : rint st 1 = ((Oct.rnum st 1).1 : Nat) := by
    have e2' : (Oct.rnum st 1).1 < 256 ^ 1 := e2
    unfold rint; exact IntWalk.wrap64_in _ (by omega)
  have e2' : (Oct.rnum st 1).1 < 256 ^ 1 := e2
  refine ⟨?_, by omega, by omega⟩
  rw [hr, Int.toNat_natCast]
  exact e1
theorem fwd4 {st : Oct.Rs} {R : ByteArray} (h : rnx st 4 = some R) : st = some (Oct.str (rint st 4).toNat 4 ++ R) := by
  obtain ⟨e1, e2⟩ := rnum_fwd (k := 4) (by omega) (by omega) h
  have e2' : (Oct.rnum st 4).1 < 256 ^ 4 := e2
  have hr : rint st 4 = ((Oct.rnum st 4).1 : Nat) := by
    unfold rint; exact IntWalk.wrap64_in _ (by omega)
  rw [hr, Int.toNat_natCast]
  exact e1
theorem fwd8 {st : Oct.Rs} {R : ByteArray} (h : rnx st 8 = some R) (h0 : 0 ≤ rint st 8) : st = some (Oct.str (rint st 8).toNat 8 ++ R) := by
  obtain ⟨e1, e2⟩ := rnum_fwd (k := 8) (by omega) (by omega) h
  have e2' : (Oct.rnum st 8).1 < 256 ^ 8 := e2
  have hr : rint st 8 = ((Oct.rnum st 8).1 : Nat) := by
    unfold rint wrap64 at h0 ⊢; omega
  rw [hr, Int.toNat_natCast]
  exact e1
theorem text_as_str (s : ByteArray) (h : s.size ≤ 255) : Oct.text s = Oct.str s.size 1 ++ s := by
  unfold Oct.text Oct.str Oct.bytesOf Oct.bs
  congr 1
  apply ByteArray.ext
  simp
  rw [Nat.mod_eq_of_lt (by omega)]
theorem fwdT {st : Oct.Rs} {R : ByteArray} (h : (Oct.rtext st).2 = some R) : st = some (Oct.text (Oct.rtext st).1 ++ R) := by
  unfold Oct.rtext at h ⊢
  obtain ⟨e1, e2⟩ := rbytes_fwd h
  obtain ⟨e3, e4⟩ := rnum_fwd (k := 1) (by omega) (by omega) e1
  have e5 : st = some (Oct.str (Oct.rnum st 1).1 1 ++ ((Oct.rbytes (Oct.rnum st 1).2 ((Oct.rnum st 1).1 : Nat)).1 ++ R)) := e3
  generalize (Oct.rbytes (Oct.rnum st 1).2 ((Oct.rnum st 1).1 : Nat)).1 = b at *
  have e4' : (Oct.rnum st 1).1 < 256 := e4
  rw [e5, text_as_str b (by omega), ba_assoc, e2]

theorem num_back (n : Nat) (k : Nat) (R : ByteArray) (h1 : 1 ≤ k) (h2 : k ≤ 8) (h : n < 256 ^ k) : Oct.rnum (some (Oct.str n k ++ R)) k = (n, some R) := by
  have hsz := Oct.str_size n k
  have e1 : Oct.rbytes (some (Oct.str n k ++ R)) k = (Oct.str n k, some R) := by
    simp only [Oct.rbytes]
    rw [if_neg (by rw [ByteArray.size_append]; omega), Int.toNat_natCast]
    have a := Oct.take_app (Oct.str n k) R
    have b := Oct.drop_app (Oct.str n k) R
    rw [hsz] at a b
    rw [a, b]
  have e2 : Oct.rnum (some (Oct.str n k ++ R)) k = (Oct.nval (Oct.rbytes (some (Oct.str n k ++ R)) k).1, (Oct.rbytes (some (Oct.str n k ++ R)) k).2) := by
    simp only [Oct.rnum]; rw [if_neg (by omega)]
  rw [e2, e1]
  simp only [Oct.nval, hsz]
  rw [if_pos ⟨h1, h2⟩, Oct.sval_str n k h]
theorem bytes_back (a R : ByteArray) (n : Nat) (h : a.size = n) : Oct.rbytes (some (a ++ R)) n = (a, some R) := by
  simp only [Oct.rbytes]
  rw [if_neg (by rw [ByteArray.size_append]; omega), Int.toNat_natCast]
  have x := Oct.take_app a R
  have y := Oct.drop_app a R
  rw [h] at x y
  rw [x, y]
theorem back1 (n : Int) (R : ByteArray) (h0 : 0 ≤ n) (h : n < 256) : rint (some (Oct.str n.toNat 1 ++ R)) 1 = n ∧ rnx (some (Oct.str n.toNat 1 ++ R)) 1 = some R := by
  have e : Oct.rnum (some (Oct.str n.toNat 1 ++ R)) 1 = (n.toNat, some R) := num_back n.toNat 1 R (by omega) (by omega) (by omega)
  unfold rint rnx
  rw [e]
  exact ⟨by dsimp only; rw [Int.toNat_of_nonneg h0]; exact IntWalk.wrap64_in _ (by omega), rfl⟩
theorem back4 (n : Int) (R : ByteArray) (h0 : 0 ≤ n) (h : n < 4294967296) : rint (some (Oct.str n.toNat 4 ++ R)) 4 = n ∧ rnx (some (Oct.str n.toNat 4 ++ R)) 4 = some R := by
  have e : Oct.rnum (some (Oct.str n.toNat 4 ++ R)) 4 = (n.toNat, some R) := num_back n.toNat 4 R (by omega) (by omega) (by omega)
  unfold rint rnx
  rw [e]
  exact ⟨by dsimp only; rw [Int.toNat_of_nonneg h0]; exact IntWalk.wrap64_in _ (by omega), rfl⟩
theorem back8 (n : Int) (R : ByteArray) (h0 : 0 ≤ n) (h : n ≤ 9223372036854775807) : rint (some (Oct.str n.toNat 8 ++ R)) 8 = n ∧ rnx (some (Oct.str n.toNat 8 ++ R)) 8 = some R := by
  have e : Oct.rnum (some (Oct.str n.toNat 8 ++ R)) 8 = (n.toNat, some R) := num_back n.toNat 8 R (by omega) (by omega) (by omega)
  unfold rint rnx
  rw [e]
  exact ⟨by dsimp only; rw [Int.toNat_of_nonneg h0]; exact IntWalk.wrap64_in _ (by omega), rfl⟩
theorem backT (s R : ByteArray) (h : s.size ≤ 255) : Oct.rtext (some (Oct.text s ++ R)) = (s, some R) := by
  have e := text_as_str s h
  unfold Oct.rtext
  rw [e, ba_assoc]
  have e2 : Oct.rnum (some (Oct.str s.size 1 ++ (s ++ R))) 1 = (s.size, some (s ++ R)) := num_back s.size 1 (s ++ R) (by omega) (by omega) (by omega)
  rw [e2]
  exact bytes_back s R s.size rfl

theorem rundo_fwd {st : Oct.Rs} {R : ByteArray} (h : (rundo st).2 = some R) : st = some ((rundo st).1.bytes ++ R) := by
  unfold rundo at h ⊢
  dsimp only at h ⊢
  have a7 := fwdT h
  have a6 := (fwd1 a7).1
  have a5 := fwdT a6
  have a4 := (fwd1 a5).1
  have a3 := fwd4 a4
  have a2 := (fwd1 a3).1
  have a1 := (fwd1 a2).1
  unfold Un.bytes
  dsimp only
  simp only [ba_assoc]
  exact a1
theorem rundo_back {u : Un} (hu : u.ok) (R : ByteArray) : rundo (some (u.bytes ++ R)) = (u, some R) := by
  obtain ⟨a1, a2, a3, a4, ⟨a5, a6⟩, a7, a8, a9, a10, a11, a12⟩ := hu
  unfold Un.bytes
  simp only [ba_assoc]
  unfold rundo
  dsimp only
  rw [(back1 u.k _ a1 (by omega)).1, (back1 u.k _ a1 (by omega)).2, (back1 u.st _ a3 (by omega)).1, (back1 u.st _ a3 (by omega)).2, (back4 u.pg _ a5 (by omega)).1, (back4 u.pg _ a5 (by omega)).2, (back1 u.sl _ a7 (by omega)).1, (back1 u.sl _ a7 (by omega)).2,
    backT u.key _ (by omega), (back1 u.bs _ a10 (by omega)).1, (back1 u.bs _ a10 (by omega)).2, backT u.bd _ (by omega)]

/-- The reader behind j images; the image it tells there. -/
def ist (s : Oct.Rs) : Nat → Oct.Rs
  | 0 => s
  | j + 1 => (Oct.rbytes (rnx (ist s j) 4) 224).2
def ibody (s : Oct.Rs) (i : Nat) : ByteArray := (Oct.rbytes (rnx (ist s i) 4) 224).1
def iim (s : Oct.Rs) (i : Nat) : Im := ⟨rint (ist s i) 4, Pg.dec (ibody s i)⟩
def lst (s : Oct.Rs) : Nat → Oct.Rs
  | 0 => s
  | j + 1 => rnx (rnx (rnx (lst s j) 4) 8) 8
def lal (s : Oct.Rs) (i : Nat) : Al := ⟨rint (lst s i) 4, rint (rnx (lst s i) 4) 8, rint (rnx (rnx (lst s i) 4) 8) 8⟩
def d6 (S : ByteArray) : Oct.Rs := (rrec (some S)).2
def d7 (S : ByteArray) : Oct.Rs := rnx (d6 S) 1
def dn (S : ByteArray) : Nat := (rint (d6 S) 1).toNat
def d8 (S : ByteArray) : Oct.Rs := ist (d7 S) (dn S)
def d9 (S : ByteArray) : Oct.Rs := rnx (d8 S) 1
def dm (S : ByteArray) : Nat := (rint (d8 S) 1).toNat
def dz (S : ByteArray) : Oct.Rs := lst (d9 S) (dm S)
/-- The record that bytes tell. -/
def Rc.of (S : ByteArray) : Rc := ⟨(rrec (some S)).1.k, (rrec (some S)).1.x, (rrec (some S)).1.pv, (rrec (some S)).1.nx, (rrec (some S)).1.u, dn S, iim (d7 S), dm S, lal (d9 S), (rrec (some S)).1.fr⟩
def decOk (S : ByteArray) : Prop := (∀ i, i < dn S → Good (ibody (d7 S) i)) ∧ dz S = some ⟨#[]⟩ ∧ (Rc.of S).ok

def imgsOf (im : Nat → Im) : Nat → ByteArray
  | 0 => ⟨#[]⟩
  | j + 1 => imgsOf im j ++ (im j).bytes
def lvsOf (al : Nat → Al) : Nat → ByteArray
  | 0 => ⟨#[]⟩
  | j + 1 => lvsOf al j ++ (al j).bytes
theorem imgs_of (r : Rc) : ∀ j, r.imgs j = imgsOf r.im j
  | 0 => rfl
  | j + 1 => by unfold Rc.imgs imgsOf; rw [imgs_of r j]
theorem lvs_of (r : Rc) : ∀ j, r.lvs j = lvsOf r.al j
  | 0 => rfl
  | j + 1 => by unfold Rc.lvs lvsOf; rw [lvs_of r j]
theorem lst_fwd {s : Oct.Rs} : ∀ j R, lst s j = some R → (∀ i, i < j → 0 ≤ (lal s i).f ∧ 0 ≤ (lal s i).l) → s = some (lvsOf (lal s) j ++ R)
  | 0, R, h, _ => by unfold lvsOf; rw [ba_nil_app]; exact h
  | j + 1, R, h, hok => by
    have h' : rnx (rnx (rnx (lst s j) 4) 8) 8 = some R := h
    have hj := hok j (by omega)
    have a3 := fwd8 h' hj.2
    have a2 := fwd8 a3 hj.1
    have a1 := fwd4 a2
    have := lst_fwd j _ a1 (fun i hi => hok i (by omega))
    unfold lvsOf
    rw [ba_assoc]
    unfold Al.bytes
    simp only [ba_assoc]
    exact this
theorem ist_fwd {s : Oct.Rs} : ∀ j R, ist s j = some R → (∀ i, i < j → Good (ibody s i)) → s = some (imgsOf (iim s) j ++ R)
  | 0, R, h, _ => by unfold imgsOf; rw [ba_nil_app]; exact h
  | j + 1, R, h, hok => by
    have h' : (Oct.rbytes (rnx (ist s j) 4) ((224 : Nat) : Int)).2 = some R := h
    have hj := hok j (by omega)
    obtain ⟨a2, _⟩ := rbytes_fwd h'
    have a1 := fwd4 a2
    have := ist_fwd j _ a1 (fun i hi => hok i (by omega))
    unfold imgsOf
    rw [ba_assoc]
    have e : (iim s j).bytes = Oct.str (rint (ist s j) 4).toNat 4 ++ ibody s j := by
      unfold Im.bytes iim
      dsimp only
      rw [show Pg.dec (ibody s j) = Pg.of (ibody s j) from if_pos hj, hj.2.2]
    rw [e, ba_assoc]
    exact this
theorem rrec_fwd {S R : ByteArray} (h : d6 S = some R) (h1 : 0 ≤ (rrec (some S)).1.pv) (h2 : 0 ≤ (rrec (some S)).1.nx) : S = (rrec (some S)).1.head ++ ((rrec (some S)).1.u.bytes ++ R) := by
  unfold d6 at h
  unfold rrec at h h1 h2 ⊢
  dsimp only at h h1 h2 ⊢
  have a6 := rundo_fwd h
  have a5 := fwd4 a6
  have a4 := fwd8 a5 h2
  have a3 := fwd8 a4 h1
  have a2 := fwd4 a3
  have a1 := (fwd1 a2).1
  unfold Rc.head
  dsimp only
  simp only [ba_assoc]
  exact Option.some.inj a1
theorem rint1_bd (s : Oct.Rs) : 0 ≤ rint s 1 ∧ rint s 1 < 256 := by
  have h := rnum1_lt s
  have : rint s 1 = ((Oct.rnum s 1).1 : Nat) := by unfold rint; exact IntWalk.wrap64_in _ (by omega)
  omega
/-- What is read well is what was written. -/
theorem of_head (S : ByteArray) : (Rc.of S).head = (rrec (some S)).1.head := by unfold Rc.head Rc.of; dsimp only
theorem of_u (S : ByteArray) : (Rc.of S).u = (rrec (some S)).1.u := by unfold Rc.of; dsimp only
theorem of_pv (S : ByteArray) : (Rc.of S).pv = (rrec (some S)).1.pv := by unfold Rc.of; dsimp only
theorem of_nx (S : ByteArray) : (Rc.of S).nx = (rrec (some S)).1.nx := by unfold Rc.of; dsimp only
theorem of_ni (S : ByteArray) : (Rc.of S).ni = (rint (d6 S) 1).toNat := by unfold Rc.of dn; dsimp only
theorem of_nl (S : ByteArray) : (Rc.of S).nl = (rint (d8 S) 1).toNat := by unfold Rc.of dm; dsimp only
theorem of_im (S : ByteArray) : (Rc.of S).im = iim (d7 S) := by unfold Rc.of; dsimp only
theorem of_al (S : ByteArray) : (Rc.of S).al = lal (d9 S) := by unfold Rc.of; dsimp only
theorem dec_fwd {S : ByteArray} (h : decOk S) : (Rc.of S).bytes = S := by
  obtain ⟨hg, hz, hok⟩ := h
  obtain ⟨_, ⟨⟨h1, _⟩, ⟨h2, _⟩, _⟩, _, _, hal⟩ := hok
  rw [of_pv] at h1
  rw [of_nx] at h2
  rw [of_nl, of_al] at hal
  unfold dz at hz
  unfold dm at hz
  have a9 := lst_fwd _ _ hz (fun i hi => ⟨(hal i hi).2.1.1, (hal i hi).2.2.1⟩)
  unfold d9 at a9
  have a8 := (fwd1 a9).1
  unfold d8 at a8
  have a7 := ist_fwd _ _ a8 hg
  unfold d7 at a7
  have a6 := (fwd1 a7).1
  have a0 := rrec_fwd a6 h1 h2
  rw [Rc.bytes_eq, imgs_of, lvs_of, of_head, of_u, of_ni, of_nl, of_im, of_al]
  rw [Oct.app_nil] at a0
  unfold dn d8 d7 d9 at *
  exact a0.symm

def imtOf (im : Nat → Im) (j : Nat) : Nat → ByteArray
  | 0 => ⟨#[]⟩
  | k + 1 => (im j).bytes ++ imtOf im (j + 1) k
def lvtOf (al : Nat → Al) (j : Nat) : Nat → ByteArray
  | 0 => ⟨#[]⟩
  | k + 1 => (al j).bytes ++ lvtOf al (j + 1) k
theorem imgs_split (im : Nat → Im) : ∀ k j, imgsOf im (j + k) = imgsOf im j ++ imtOf im j k
  | 0, j => by unfold imtOf; rw [Oct.app_nil]; rfl
  | k + 1, j => by
    have := imgs_split im k (j + 1)
    rw [show j + (k + 1) = j + 1 + k by omega, this, show imtOf im j (k + 1) = (im j).bytes ++ imtOf im (j + 1) k from rfl, ← ba_assoc]
    rfl
theorem lvs_split (al : Nat → Al) : ∀ k j, lvsOf al (j + k) = lvsOf al j ++ lvtOf al j k
  | 0, j => by unfold lvtOf; rw [Oct.app_nil]; rfl
  | k + 1, j => by
    have := lvs_split al k (j + 1)
    rw [show j + (k + 1) = j + 1 + k by omega, this, show lvtOf al j (k + 1) = (al j).bytes ++ lvtOf al (j + 1) k from rfl, ← ba_assoc]
    rfl
theorem ist_back {im : Nat → Im} {n : Nat} (R : ByteArray) (hok : ∀ i, i < n → (im i).ok) : ∀ j, j ≤ n → ist (some (imgsOf im n ++ R)) j = some (imtOf im j (n - j) ++ R) ∧ ∀ i, i < j → ibody (some (imgsOf im n ++ R)) i = (im i).p.bytes ∧ rint (ist (some (imgsOf im n ++ R)) i) 4 = (im i).id
  | 0, _ => ⟨by
      have := imgs_split im n 0
      rw [Nat.zero_add] at this
      rw [this]
      unfold ist imgsOf
      rw [ba_nil_app]; rfl, fun i hi => absurd hi (Nat.not_lt_zero i)⟩
  | j + 1, hj => by
    obtain ⟨e, hall⟩ := ist_back R hok j (by omega)
    have hokj := hok j (by omega)
    have e' : ist (some (imgsOf im n ++ R)) j = some (Oct.str (im j).id.toNat 4 ++ ((im j).p.bytes ++ (imtOf im (j + 1) (n - (j + 1)) ++ R))) := by
      rw [e, show n - j = n - (j + 1) + 1 by omega]
      show some (((im j).bytes ++ imtOf im (j + 1) (n - (j + 1))) ++ R) = _
      unfold Im.bytes
      simp only [ba_assoc]
    obtain ⟨b1, b2⟩ := back4 (im j).id ((im j).p.bytes ++ (imtOf im (j + 1) (n - (j + 1)) ++ R)) hokj.1.1 (by have := hokj.1.2; omega)
    have b3 : Oct.rbytes (some ((im j).p.bytes ++ (imtOf im (j + 1) (n - (j + 1)) ++ R))) 224 = ((im j).p.bytes, some (imtOf im (j + 1) (n - (j + 1)) ++ R)) := bytes_back _ _ 224 (Pg.bytes_size hokj.2)
    refine ⟨?_, fun i hi => ?_⟩
    · show (Oct.rbytes (rnx (ist _ j) 4) 224).2 = _
      rw [e', b2, b3]
    · rcases Nat.lt_or_ge i j with g | g
      · exact hall i g
      · obtain rfl : i = j := by omega
        refine ⟨?_, ?_⟩
        · show (Oct.rbytes (rnx (ist _ i) 4) 224).1 = _
          rw [e', b2, b3]
        · rw [e']; exact b1
theorem lst_back {al : Nat → Al} {n : Nat} (R : ByteArray) (hok : ∀ i, i < n → (al i).ok) : ∀ j, j ≤ n → lst (some (lvsOf al n ++ R)) j = some (lvtOf al j (n - j) ++ R) ∧ ∀ i, i < j → lal (some (lvsOf al n ++ R)) i = al i
  | 0, _ => ⟨by
      have := lvs_split al n 0
      rw [Nat.zero_add] at this
      rw [this]
      unfold lst lvsOf
      rw [ba_nil_app]; rfl, fun i hi => absurd hi (Nat.not_lt_zero i)⟩
  | j + 1, hj => by
    obtain ⟨e, hall⟩ := lst_back R hok j (by omega)
    obtain ⟨⟨o1, o2⟩, ⟨o3, o4⟩, o5, o6⟩ := hok j (by omega)
    have e' : lst (some (lvsOf al n ++ R)) j = some (Oct.str (al j).x.toNat 4 ++ (Oct.str (al j).f.toNat 8 ++ (Oct.str (al j).l.toNat 8 ++ (lvtOf al (j + 1) (n - (j + 1)) ++ R)))) := by
      rw [e, show n - j = n - (j + 1) + 1 by omega]
      show some (((al j).bytes ++ lvtOf al (j + 1) (n - (j + 1))) ++ R) = _
      unfold Al.bytes
      simp only [ba_assoc]
    have b1 := back4 (al j).x (Oct.str (al j).f.toNat 8 ++ (Oct.str (al j).l.toNat 8 ++ (lvtOf al (j + 1) (n - (j + 1)) ++ R))) o1 (by omega)
    have b2 := back8 (al j).f (Oct.str (al j).l.toNat 8 ++ (lvtOf al (j + 1) (n - (j + 1)) ++ R)) o3 (by omega)
    have b3 := back8 (al j).l (lvtOf al (j + 1) (n - (j + 1)) ++ R) o5 (by omega)
    refine ⟨?_, fun i hi => ?_⟩
    · show rnx (rnx (rnx (lst _ j) 4) 8) 8 = _
      rw [e', b1.2, b2.2, b3.2]
    · rcases Nat.lt_or_ge i j with g | g
      · exact hall i g
      · obtain rfl : i = j := by omega
        unfold lal
        rw [e', b1.1, b1.2, b2.1, b2.2, b3.1]
/-- Whatever stands behind a record is left. -/
theorem dec_more {q : Rc} (R : ByteArray) (h : q.ok) : dz (q.bytes ++ R) = some R := by
  obtain ⟨⟨k1, k2, ⟨x1, x2⟩, f1, f2⟩, ⟨⟨p1, p2⟩, ⟨n1, n2⟩, hu⟩, ⟨hni, hnl⟩, him, hal⟩ := id h
  have hb : q.bytes ++ R = Oct.str q.k.toNat 1 ++ (Oct.str q.x.toNat 4 ++ (Oct.str q.pv.toNat 8 ++ (Oct.str q.nx.toNat 8 ++ (Oct.str q.fr.toNat 4 ++ (q.u.bytes ++ (Oct.str ((q.ni : Int)).toNat 1 ++ (imgsOf q.im q.ni ++ (Oct.str ((q.nl : Int)).toNat 1 ++ (lvsOf q.al q.nl ++ R))))))))) := by
    rw [Rc.bytes_eq, imgs_of, lvs_of]
    unfold Rc.head
    simp only [ba_assoc, Int.toNat_natCast]
  have c1 := fun R => back1 q.k R (by omega) (by omega)
  have c2 := fun R => back4 q.x R x1 (by omega)
  have c3 := fun R => back8 q.pv R p1 (by omega)
  have c4 := fun R => back8 q.nx R n1 (by omega)
  have c5 := fun R => back4 q.fr R f1 (by omega)
  have hr : rrec (some (q.bytes ++ R)) = (⟨q.k, q.x, q.pv, q.nx, q.u, 0, fun _ => Im.zero, 0, fun _ => ⟨0, 0, 0⟩, q.fr⟩, some (Oct.str ((q.ni : Int)).toNat 1 ++ (imgsOf q.im q.ni ++ (Oct.str ((q.nl : Int)).toNat 1 ++ (lvsOf q.al q.nl ++ R))))) := by
    rw [hb]
    unfold rrec
    dsimp only
    rw [(c1 _).1, (c1 _).2, (c2 _).1, (c2 _).2, (c3 _).1, (c3 _).2, (c4 _).1, (c4 _).2, (c5 _).1, (c5 _).2, rundo_back hu]
  have hd6 : d6 (q.bytes ++ R) = some (Oct.str ((q.ni : Int)).toNat 1 ++ (imgsOf q.im q.ni ++ (Oct.str ((q.nl : Int)).toNat 1 ++ (lvsOf q.al q.nl ++ R)))) := by unfold d6; rw [hr]
  have cn := fun R => back1 (q.ni : Int) R (by omega) (by omega)
  have cm := fun R => back1 (q.nl : Int) R (by omega) (by omega)
  have hd7 : d7 (q.bytes ++ R) = some (imgsOf q.im q.ni ++ (Oct.str ((q.nl : Int)).toNat 1 ++ (lvsOf q.al q.nl ++ R))) := by unfold d7; rw [hd6, (cn _).2]
  have hdn : dn (q.bytes ++ R) = q.ni := by unfold dn; rw [hd6, (cn _).1, Int.toNat_natCast]
  obtain ⟨i1, i2⟩ := ist_back (Oct.str ((q.nl : Int)).toNat 1 ++ (lvsOf q.al q.nl ++ R)) him q.ni (Nat.le_refl _)
  have hd8 : d8 (q.bytes ++ R) = some (Oct.str ((q.nl : Int)).toNat 1 ++ (lvsOf q.al q.nl ++ R)) := by
    unfold d8
    rw [hd7, hdn, i1, Nat.sub_self]
    unfold imtOf
    rw [ba_nil_app]
  have hd9 : d9 (q.bytes ++ R) = some (lvsOf q.al q.nl ++ R) := by unfold d9; rw [hd8, (cm _).2]
  have hdm : dm (q.bytes ++ R) = q.nl := by unfold dm; rw [hd8, (cm _).1, Int.toNat_natCast]
  obtain ⟨l1, l2⟩ := lst_back R hal q.nl (Nat.le_refl _)
  unfold dz
  rw [hd9, hdm, l1, Nat.sub_self]
  unfold lvtOf
  rw [ba_nil_app]
/-- One byte more is none; one byte less is none. -/
theorem dec_longer {q : Rc} {R : ByteArray} (h : q.ok) (hR : R.size ≠ 0) : ¬ decOk (q.bytes ++ R) := fun hd => by
  have h1 := hd.2.1
  rw [dec_more R h] at h1
  injection h1 with h1
  subst h1
  exact hR rfl
/-- What was written is read. -/
theorem dec_back {q : Rc} {S : ByteArray} (h : q.ok) (hS : q.bytes = S) : decOk S ∧ (Rc.of S).same q := by
  subst hS
  obtain ⟨⟨k1, k2, ⟨x1, x2⟩, f1, f2⟩, ⟨⟨p1, p2⟩, ⟨n1, n2⟩, hu⟩, ⟨hni, hnl⟩, him, hal⟩ := id h
  have hb : q.bytes = Oct.str q.k.toNat 1 ++ (Oct.str q.x.toNat 4 ++ (Oct.str q.pv.toNat 8 ++ (Oct.str q.nx.toNat 8 ++ (Oct.str q.fr.toNat 4 ++ (q.u.bytes ++ (Oct.str ((q.ni : Int)).toNat 1 ++ (imgsOf q.im q.ni ++ (Oct.str ((q.nl : Int)).toNat 1 ++ (lvsOf q.al q.nl ++ ⟨#[]⟩))))))))) := by
    rw [Rc.bytes_eq, imgs_of, lvs_of, Oct.app_nil]
    unfold Rc.head
    simp only [ba_assoc, Int.toNat_natCast]
  have c1 := fun R => back1 q.k R (by omega) (by omega)
  have c2 := fun R => back4 q.x R x1 (by omega)
  have c3 := fun R => back8 q.pv R p1 (by omega)
  have c4 := fun R => back8 q.nx R n1 (by omega)
  have c5 := fun R => back4 q.fr R f1 (by omega)
  have hr : rrec (some q.bytes) = (⟨q.k, q.x, q.pv, q.nx, q.u, 0, fun _ => Im.zero, 0, fun _ => ⟨0, 0, 0⟩, q.fr⟩, some (Oct.str ((q.ni : Int)).toNat 1 ++ (imgsOf q.im q.ni ++ (Oct.str ((q.nl : Int)).toNat 1 ++ (lvsOf q.al q.nl ++ ⟨#[]⟩))))) := by
    rw [hb]
    unfold rrec
    dsimp only
    rw [(c1 _).1, (c1 _).2, (c2 _).1, (c2 _).2, (c3 _).1, (c3 _).2, (c4 _).1, (c4 _).2, (c5 _).1, (c5 _).2, rundo_back hu]
  have hd6 : d6 q.bytes = some (Oct.str ((q.ni : Int)).toNat 1 ++ (imgsOf q.im q.ni ++ (Oct.str ((q.nl : Int)).toNat 1 ++ (lvsOf q.al q.nl ++ ⟨#[]⟩)))) := by unfold d6; rw [hr]
  have cn := fun R => back1 (q.ni : Int) R (by omega) (by omega)
  have cm := fun R => back1 (q.nl : Int) R (by omega) (by omega)
  have hd7 : d7 q.bytes = some (imgsOf q.im q.ni ++ (Oct.str ((q.nl : Int)).toNat 1 ++ (lvsOf q.al q.nl ++ ⟨#[]⟩))) := by unfold d7; rw [hd6, (cn _).2]
  have hdn : dn q.bytes = q.ni := by unfold dn; rw [hd6, (cn _).1, Int.toNat_natCast]
  obtain ⟨i1, i2⟩ := ist_back (Oct.str ((q.nl : Int)).toNat 1 ++ (lvsOf q.al q.nl ++ ⟨#[]⟩)) him q.ni (Nat.le_refl _)
  have hd8 : d8 q.bytes = some (Oct.str ((q.nl : Int)).toNat 1 ++ (lvsOf q.al q.nl ++ ⟨#[]⟩)) := by
    unfold d8
    rw [hd7, hdn, i1, Nat.sub_self]
    unfold imtOf
    rw [ba_nil_app]
  have hd9 : d9 q.bytes = some (lvsOf q.al q.nl ++ ⟨#[]⟩) := by unfold d9; rw [hd8, (cm _).2]
  have hdm : dm q.bytes = q.nl := by unfold dm; rw [hd8, (cm _).1, Int.toNat_natCast]
  obtain ⟨l1, l2⟩ := lst_back ⟨#[]⟩ hal q.nl (Nat.le_refl _)
  have hdz : dz q.bytes = some ⟨#[]⟩ := by
    unfold dz
    rw [hd9, hdm, l1, Nat.sub_self]
    unfold lvtOf
    rw [ba_nil_app]
  have hgood : ∀ i, i < q.ni → Good (ibody (d7 q.bytes) i) ∧ iim (d7 q.bytes) i = ⟨(q.im i).id, Pg.of (q.im i).p.bytes⟩ := by
    intro i hi
    obtain ⟨a, b⟩ := i2 i hi
    have hg := (good_bytes (q.im i).p (him i hi).2).1
    rw [hd7]
    refine ⟨by rw [a]; exact hg, ?_⟩
    unfold iim
    rw [a, b, show Pg.dec (q.im i).p.bytes = Pg.of (q.im i).p.bytes from if_pos hg]
  have hlal : ∀ i, i < q.nl → lal (d9 q.bytes) i = q.al i := fun i hi => by rw [hd9]; exact l2 i hi
  refine ⟨⟨fun i hi => (hgood i (by omega)).1, hdz, ?_⟩, ⟨?_, fun i hi => ?_, fun i hi => ?_⟩⟩
  · refine ⟨?_, ?_, ?_, fun i hi => ?_, fun i hi => ?_⟩
    · show 1 ≤ (rrec (some q.bytes)).1.k ∧ (rrec (some q.bytes)).1.k ≤ 6 ∧ isNum (rrec (some q.bytes)).1.x ∧ isNum (rrec (some q.bytes)).1.fr
      rw [hr]
      exact ⟨k1, k2, ⟨x1, x2⟩, f1, f2⟩
    · show isPl (rrec (some q.bytes)).1.pv ∧ isPl (rrec (some q.bytes)).1.nx ∧ (rrec (some q.bytes)).1.u.ok
      rw [hr]
      exact ⟨⟨p1, p2⟩, ⟨n1, n2⟩, hu⟩
    · show dn q.bytes ≤ 24 ∧ dm q.bytes ≤ 8
      omega
    · have hi' : i < q.ni := by rw [← hdn]; exact hi
      show (iim (d7 q.bytes) i).ok
      rw [(hgood i hi').2]
      exact ⟨(him i hi').1, (good_bytes (q.im i).p (him i hi').2).1.2.1⟩
    · have hi' : i < q.nl := by rw [← hdm]; exact hi
      show (lal (d9 q.bytes) i).ok
      rw [hlal i hi']
      exact hal i hi'
  · unfold Rc.hd Rc.of
    dsimp only
    rw [hr]
    exact ⟨rfl, rfl, rfl, rfl, rfl, rfl, hdn, hdm⟩
  · have hi' : i < q.ni := by rw [← hdn]; exact hi
    show imB (iim (d7 q.bytes) i) (q.im i) = true
    rw [(hgood i hi').2, imB_iff]
    exact ⟨rfl, (pgB_iff _ _).2 (Pg.of_bytes _ (him i hi').2)⟩
  · have hi' : i < q.nl := by rw [← hdm]; exact hi
    show alB (lal (d9 q.bytes) i) (q.al i) = true
    rw [hlal i hi']
    exact alB_self _
theorem dec_shorter {r : Rc} (h : r.ok) (n : Nat) (hn : n < r.bytes.size) : ¬ decOk (r.bytes.extract 0 n) := fun hd => by
  have hq := dec_fwd hd
  have hz := (dec_back h rfl).1.2.1
  have e : r.bytes = (Rc.of (r.bytes.extract 0 n)).bytes ++ r.bytes.extract n r.bytes.size := by
    rw [hq, ex_app _ _ _ _ (by omega) (by omega), ex_all]
  have h1 := dec_more (r.bytes.extract n r.bytes.size) hd.2.2
  rw [← e, hz] at h1
  injection h1 with h1
  have h2 := ex_size r.bytes n r.bytes.size (Nat.le_refl _)
  rw [← h1] at h2
  have h0 : (⟨#[]⟩ : ByteArray).size = 0 := rfl
  omega
end Go.Proofs.Ytggabnmfjooejaa
