/- Unlike records have unlike bytes. No program in sight but the pages' bytes. -/
import Derived.Test.YtggabnmfjooejaaRecSame2
set_option linter.unusedVariables false
set_option linter.unusedSimpArgs false
namespace Go.Proofs.Ytggabnmfjooejaa
open Go.RowKit

theorem ba_assoc (a b c : ByteArray) : a ++ b ++ c = a ++ (b ++ c) := ByteArray.append_assoc
theorem str_inj {a b : Int} {k : Nat} (h : Oct.str a.toNat k = Oct.str b.toNat k) (ha : 0 ≤ a) (hb : 0 ≤ b) (ha' : a.toNat < 256 ^ k) (hb' : b.toNat < 256 ^ k) : a = b := by
  have h1 := Oct.sval_str a.toNat k ha'
  have h2 := Oct.sval_str b.toNat k hb'
  rw [h, h2] at h1
  omega
theorem nstr_inj {a b k : Nat} (h : Oct.str a k = Oct.str b k) (ha' : a < 256 ^ k) (hb' : b < 256 ^ k) : a = b := by
  have h1 := Oct.sval_str a k ha'
  have h2 := Oct.sval_str b k hb'
  rw [h, h2] at h1
  omega
theorem text_inj {a b c d : ByteArray} (h : Oct.text a ++ c = Oct.text b ++ d) (ha : a.size ≤ 255) (hb : b.size ≤ 255) : a = b ∧ c = d := by
  unfold Oct.text at h
  rw [ba_assoc, ba_assoc] at h
  obtain ⟨h1, h2⟩ := app_inj h rfl
  have h3 : a.size = b.size := by
    have e : (UInt8.ofNat a.size).toNat = (UInt8.ofNat b.size).toNat := by
      have : UInt8.ofNat a.size = UInt8.ofNat b.size := by simpa using h1
      rw [this]
    simp at e
    omega
  exact app_inj h2 h3
theorem str_cut {a b : Int} {k : Nat} {c d : ByteArray} (h : Oct.str a.toNat k ++ c = Oct.str b.toNat k ++ d) (ha : 0 ≤ a) (hb : 0 ≤ b) (ha' : a.toNat < 256 ^ k) (hb' : b.toNat < 256 ^ k) : a = b ∧ c = d := by
  obtain ⟨h1, h2⟩ := app_inj h (by simp [Oct.str_size])
  exact ⟨str_inj h1 ha hb ha' hb', h2⟩
theorem pg_bytes_inj {p q : Pg} (hp : p.ok) (hq : q.ok) (h : p.bytes = q.bytes) : pgB p q = true := by
  obtain ⟨a1, a2, a3, a4, a5⟩ := Pg.of_bytes p hp
  obtain ⟨b1, b2, b3, b4, b5⟩ := Pg.of_bytes q hq
  rw [h] at a1 a2 a3 a4 a5
  exact (pgB_iff p q).2 ⟨a1.symm.trans b1, a2.symm.trans b2, a3.symm.trans b3, a4.symm.trans b4, fun i hi => (a5 i hi).symm.trans (b5 i hi)⟩
theorem pg_upTo_congr {p q : Pg} (h : p.k = q.k ∧ p.l = q.l ∧ p.s = q.s ∧ p.n = q.n ∧ ∀ i, i < 6 → p.c i = q.c i) : ∀ j, j ≤ 6 → p.upTo j = q.upTo j
  | 0, _ => by unfold Pg.upTo Pg.hbytes; rw [h.1, h.2.1, h.2.2.1, h.2.2.2.1]
  | j + 1, hj => by unfold Pg.upTo; rw [pg_upTo_congr h j (by omega), h.2.2.2.2 j (by omega)]
theorem pg_bytes_congr {p q : Pg} (h : pgB p q = true) : p.bytes = q.bytes := pg_upTo_congr ((pgB_iff p q).1 h) 6 (Nat.le_refl _)
theorem im_bytes_inj {a b : Im} (ha : a.ok) (hb : b.ok) (h : a.bytes = b.bytes) : imB a b = true := by
  unfold Im.bytes at h
  obtain ⟨h1, h2⟩ := str_cut h ha.1.1 hb.1.1 (by have := ha.1; unfold isPgn at this; omega) (by have := hb.1; unfold isPgn at this; omega)
  exact (imB_iff a b).2 ⟨h1, pg_bytes_inj ha.2 hb.2 h2⟩
theorem im_bytes_congr {a b : Im} (h : imB a b = true) : a.bytes = b.bytes := by
  obtain ⟨h1, h2⟩ := (imB_iff a b).1 h
  unfold Im.bytes
  rw [h1, pg_bytes_congr h2]
theorem al_bytes_inj {a b : Al} (ha : a.ok) (hb : b.ok) (h : a.bytes = b.bytes) : alB a b = true := by
  unfold Al.bytes at h
  rw [ba_assoc, ba_assoc] at h
  obtain ⟨⟨a1, a2⟩, ⟨a3, a4⟩, a5, a6⟩ := ha
  obtain ⟨⟨b1, b2⟩, ⟨b3, b4⟩, b5, b6⟩ := hb
  obtain ⟨h1, h⟩ := str_cut h a1 b1 (by omega) (by omega)
  obtain ⟨h2, h⟩ := str_cut h a3 b3 (by omega) (by omega)
  have h3 := str_inj h a5 b5 (by omega) (by omega)
  refine (alB_iff a b).2 ?_
  obtain ⟨_, _, _⟩ := a
  obtain ⟨_, _, _⟩ := b
  dsimp only at h1 h2 h3
  rw [h1, h2, h3]
def Rc.imgs (r : Rc) : Nat → ByteArray
  | 0 => ⟨#[]⟩
  | j + 1 => r.imgs j ++ (r.im j).bytes
def Rc.lvs (r : Rc) : Nat → ByteArray
  | 0 => ⟨#[]⟩
  | j + 1 => r.lvs j ++ (r.al j).bytes
theorem Rc.upI_eq (r : Rc) : ∀ j, r.upI j = r.head ++ r.u.bytes ++ Oct.str r.ni 1 ++ r.imgs j
  | 0 => by unfold Rc.upI Rc.imgs; rw [Oct.app_nil]
  | j + 1 => by unfold Rc.upI Rc.imgs; rw [Rc.upI_eq r j, ba_assoc]
theorem Rc.upL_eq (r : Rc) : ∀ j, r.upL j = r.upI r.ni ++ Oct.str r.nl 1 ++ r.lvs j
  | 0 => by unfold Rc.upL Rc.lvs; rw [Oct.app_nil]
  | j + 1 => by unfold Rc.upL Rc.lvs; rw [Rc.upL_eq r j, ba_assoc]
theorem imgs_size {r : Rc} : ∀ j, (∀ i, i < j → (r.im i).ok) → (r.imgs j).size = 228 * j
  | 0, _ => rfl
  | j + 1, h => by unfold Rc.imgs; rw [ba_size_append, imgs_size j (fun i hi => h i (by omega)), Im.bytes_size (h j (by omega))]; omega
theorem lvs_size {r : Rc} : ∀ j, (r.lvs j).size = 20 * j
  | 0 => rfl
  | j + 1 => by unfold Rc.lvs; rw [ba_size_append, lvs_size j, Al.bytes_size]; omega
theorem imgs_inj {a b : Rc} : ∀ j, (∀ i, i < j → (a.im i).ok) → (∀ i, i < j → (b.im i).ok) → a.imgs j = b.imgs j → ∀ i, i < j → imB (a.im i) (b.im i) = true
  | 0, _, _, _, i, hi => absurd hi (Nat.not_lt_zero i)
  | j + 1, ha, hb, h, i, hi => by
    unfold Rc.imgs at h
    obtain ⟨h1, h2⟩ := app_inj h (by rw [imgs_size j (fun i hi => ha i (by omega)), imgs_size j (fun i hi => hb i (by omega))])
    rcases Nat.lt_or_ge i j with g | g
    · exact imgs_inj j (fun i hi => ha i (by omega)) (fun i hi => hb i (by omega)) h1 i g
    · obtain rfl : i = j := by omega
      exact im_bytes_inj (ha i (by omega)) (hb i (by omega)) h2
theorem lvs_inj {a b : Rc} : ∀ j, (∀ i, i < j → (a.al i).ok) → (∀ i, i < j → (b.al i).ok) → a.lvs j = b.lvs j → ∀ i, i < j → alB (a.al i) (b.al i) = true
  | 0, _, _, _, i, hi => absurd hi (Nat.not_lt_zero i)
  | j + 1, ha, hb, h, i, hi => by
    unfold Rc.lvs at h
    obtain ⟨h1, h2⟩ := app_inj h (by rw [lvs_size j, lvs_size j])
    rcases Nat.lt_or_ge i j with g | g
    · exact lvs_inj j (fun i hi => ha i (by omega)) (fun i hi => hb i (by omega)) h1 i g
    · obtain rfl : i = j := by omega
      exact al_bytes_inj (ha i (by omega)) (hb i (by omega)) h2
theorem imgs_congr {a b : Rc} : ∀ j, (∀ i, i < j → imB (a.im i) (b.im i) = true) → a.imgs j = b.imgs j
  | 0, _ => rfl
  | j + 1, h => by unfold Rc.imgs; rw [imgs_congr j (fun i hi => h i (by omega)), im_bytes_congr (h j (by omega))]
theorem lvs_congr {a b : Rc} : ∀ j, (∀ i, i < j → alB (a.al i) (b.al i) = true) → a.lvs j = b.lvs j
  | 0, _ => rfl
  | j + 1, h => by unfold Rc.lvs; rw [lvs_congr j (fun i hi => h i (by omega)), (alB_iff _ _).1 (h j (by omega))]
theorem Rc.bytes_eq (r : Rc) : r.bytes = r.head ++ (r.u.bytes ++ (Oct.str r.ni 1 ++ (r.imgs r.ni ++ (Oct.str r.nl 1 ++ r.lvs r.nl)))) := by
  unfold Rc.bytes
  rw [Rc.upL_eq, Rc.upI_eq]
  simp only [ba_assoc]
theorem un_bytes_inj {a b : Un} {c d : ByteArray} (ha : a.ok) (hb : b.ok) (h : a.bytes ++ c = b.bytes ++ d) : a = b ∧ c = d := by
  unfold Un.bytes at h
  simp only [ba_assoc] at h
  obtain ⟨a1, a2, a3, a4, ⟨a5, a6⟩, a7, a8, a9, a10, a11, a12⟩ := ha
  obtain ⟨b1, b2, b3, b4, ⟨b5, b6⟩, b7, b8, b9, b10, b11, b12⟩ := hb
  obtain ⟨h1, h⟩ := str_cut h a1 b1 (by omega) (by omega)
  obtain ⟨h2, h⟩ := str_cut h a3 b3 (by omega) (by omega)
  obtain ⟨h3, h⟩ := str_cut h a5 b5 (by omega) (by omega)
  obtain ⟨h4, h⟩ := str_cut h a7 b7 (by omega) (by omega)
  obtain ⟨h5, h⟩ := text_inj h (by omega) (by omega)
  obtain ⟨h6, h⟩ := str_cut h a10 b10 (by omega) (by omega)
  obtain ⟨h7, h8⟩ := text_inj h (by omega) (by omega)
  obtain ⟨_, _, _, _, _, _, _⟩ := a
  obtain ⟨_, _, _, _, _, _, _⟩ := b
  dsimp only at h1 h2 h3 h4 h5 h6 h7
  subst h1 h2 h3 h4 h5 h6 h7
  exact ⟨rfl, h8⟩
theorem head_inj {a b : Rc} (ha : a.ok) (hb : b.ok) (h : a.head = b.head) : a.k = b.k ∧ a.x = b.x ∧ a.pv = b.pv ∧ a.nx = b.nx ∧ a.fr = b.fr := by
  unfold Rc.head at h
  simp only [ba_assoc] at h
  obtain ⟨⟨a1, a2, ⟨a3, a4⟩, a5, a6⟩, ⟨⟨a7, a8⟩, ⟨a9, a10⟩, _⟩, _⟩ := ha
  obtain ⟨⟨b1, b2, ⟨b3, b4⟩, b5, b6⟩, ⟨⟨b7, b8⟩, ⟨b9, b10⟩, _⟩, _⟩ := hb
  obtain ⟨h1, h⟩ := str_cut h (by omega) (by omega) (by omega) (by omega)
  obtain ⟨h2, h⟩ := str_cut h a3 b3 (by omega) (by omega)
  obtain ⟨h3, h⟩ := str_cut h a7 b7 (by omega) (by omega)
  obtain ⟨h4, h⟩ := str_cut h a9 b9 (by omega) (by omega)
  exact ⟨h1, h2, h3, h4, str_inj h a5 b5 (by omega) (by omega)⟩
theorem bytes_inj {a b : Rc} (ha : a.ok) (hb : b.ok) : a.bytes = b.bytes ↔ a.same b := by
  obtain ⟨_, ⟨_, _, hau⟩, ⟨hai, hal⟩, him, hlv⟩ := id ha
  obtain ⟨_, ⟨_, _, hbu⟩, ⟨hbi, hbl⟩, jim, jlv⟩ := id hb
  constructor
  · intro h
    rw [Rc.bytes_eq, Rc.bytes_eq] at h
    obtain ⟨h1, h⟩ := app_inj h (by rw [Rc.head_size, Rc.head_size])
    obtain ⟨h2, h⟩ := un_bytes_inj hau hbu h
    obtain ⟨h3, h⟩ := app_inj h (by rw [Oct.str_size, Oct.str_size])
    have h3 := nstr_inj h3 (by omega) (by omega)
    obtain ⟨h4, h⟩ := app_inj h (by rw [imgs_size _ him, imgs_size _ jim, h3])
    obtain ⟨h5, h⟩ := app_inj h (by rw [Oct.str_size, Oct.str_size])
    have h5 := nstr_inj h5 (by omega) (by omega)
    obtain ⟨e1, e2, e3, e4, e5⟩ := head_inj ha hb h1
    refine ⟨⟨e1, e2, e3, e4, e5, h2, h3, h5⟩, imgs_inj a.ni him (fun i hi => jim i (by omega)) (by rw [h4, h3]), lvs_inj a.nl hlv (fun i hi => jlv i (by omega)) (by rw [h, h5])⟩
  · rintro ⟨⟨e1, e2, e3, e4, e5, h2, h3, h5⟩, hi, hl⟩
    rw [Rc.bytes_eq, Rc.bytes_eq]
    have hh : a.head = b.head := by unfold Rc.head; rw [e1, e2, e3, e4, e5]
    rw [hh, h2, imgs_congr _ hi, lvs_congr _ hl, h3, h5]
end Go.Proofs.Ytggabnmfjooejaa
