/- Records, as the walks know them. No program in sight. -/
import Derived.Test.YtggabnmfjooejaaPgEnc
import Derived.Test.YtggabnmfjooejaaOctText
set_option linter.unusedVariables false
set_option linter.unusedSimpArgs false
namespace Go.Proofs.Ytggabnmfjooejaa
open Go.RowKit

/-- How a change is taken back. -/
structure Un where
  k : Int
  st : Int
  pg : Int
  sl : Int
  key : ByteArray
  bs : Int
  bd : ByteArray
/-- An image: a page's number, the page. -/
structure Im where
  id : Int
  p : Pg
/-- One that lives. -/
structure Al where
  x : Int
  f : Int
  l : Int
/-- A record; vi, vl: the slices of its images and of those that live. -/
structure Rc where
  k : Int
  x : Int
  pv : Int
  nx : Int
  u : Un
  ni : Nat
  im : Nat → Im
  nl : Nat
  al : Nat → Al
  fr : Int
def Un.cs (u : Un) : Array Value := #[.int .i64 u.k, .int .i64 u.st, .int .i64 u.pg, .int .i64 u.sl, .string u.key, .int .i64 u.bs, .string u.bd]
def Rc.cs (r : Rc) (vi vl : Value) : Array Value := #[.int .i64 r.k, .int .i64 r.x, .int .i64 r.pv, .int .i64 r.nx, .int .i64 r.u.k, .int .i64 r.u.st, .int .i64 r.u.pg, .int .i64 r.u.sl, .string r.u.key, .int .i64 r.u.bs, .string r.u.bd, vi, vl, .int .i64 r.fr]
def Al.cs (a : Al) : Array Value := #[.int .i64 a.x, .int .i64 a.f, .int .i64 a.l]
def Im.cs (m : Im) : Array Value := #[.int .i64 m.id, .int .i64 m.p.k, .int .i64 m.p.l, .int .i64 m.p.s, .int .i64 m.p.n, .int .i64 (m.p.c 0).st, .string (m.p.c 0).d, .int .i64 (m.p.c 1).st, .string (m.p.c 1).d, .int .i64 (m.p.c 2).st, .string (m.p.c 2).d, .int .i64 (m.p.c 3).st, .string (m.p.c 3).d, .int .i64 (m.p.c 4).st, .string (m.p.c 4).d, .int .i64 (m.p.c 5).st, .string (m.p.c 5).d]

def isNum (n : Int) : Prop := 0 ≤ n ∧ n ≤ 2147483647
instance (n : Int) : Decidable (isNum n) := by unfold isNum; infer_instance
def isPl (n : Int) : Prop := 0 ≤ n ∧ n ≤ 1099511627776
instance (n : Int) : Decidable (isPl n) := by unfold isPl; infer_instance
def isPgn (n : Int) : Prop := 0 ≤ n ∧ n < 1024
instance (n : Int) : Decidable (isPgn n) := by unfold isPgn; infer_instance
def Un.ok (u : Un) : Prop := 0 ≤ u.k ∧ u.k ≤ 3 ∧ 0 ≤ u.st ∧ u.st ≤ 6 ∧ isPgn u.pg ∧ 0 ≤ u.sl ∧ u.sl < 6 ∧ u.key.size ≤ 8 ∧ 0 ≤ u.bs ∧ u.bs ≤ 2 ∧ u.bd.size ≤ 34
instance (u : Un) : Decidable u.ok := by unfold Un.ok; infer_instance
theorem not_un {u : Un} (h : ¬ u.ok) : u.k < 0 ∨ (0 ≤ u.k ∧ 3 < u.k) ∨ (0 ≤ u.k ∧ u.k ≤ 3 ∧ u.st < 0) ∨ (0 ≤ u.k ∧ u.k ≤ 3 ∧ 0 ≤ u.st ∧ 6 < u.st) ∨
    (0 ≤ u.k ∧ u.k ≤ 3 ∧ 0 ≤ u.st ∧ u.st ≤ 6 ∧ (¬ isPgn u.pg ∨ (isPgn u.pg ∧ (u.sl < 0 ∨ (0 ≤ u.sl ∧ (6 ≤ u.sl ∨ (u.sl < 6 ∧ (8 < u.key.size ∨ (u.key.size ≤ 8 ∧ (u.bs < 0 ∨ (0 ≤ u.bs ∧ (2 < u.bs ∨ (u.bs ≤ 2 ∧ 34 < u.bd.size))))))))))))) := by
  unfold Un.ok at h
  by_cases hp : isPgn u.pg
  · simp only [hp, true_and, not_true, false_or] at h ⊢
    omega
  · simp only [hp, false_and, not_false_iff, true_or, and_true] at h ⊢
    omega

/-- A record's bytes. -/
def Un.bytes (u : Un) : ByteArray := Oct.str u.k.toNat 1 ++ Oct.str u.st.toNat 1 ++ Oct.str u.pg.toNat 4 ++ Oct.str u.sl.toNat 1 ++ Oct.text u.key ++ Oct.str u.bs.toNat 1 ++ Oct.text u.bd
def Im.bytes (m : Im) : ByteArray := Oct.str m.id.toNat 4 ++ m.p.bytes
def Al.bytes (a : Al) : ByteArray := Oct.str a.x.toNat 4 ++ Oct.str a.f.toNat 8 ++ Oct.str a.l.toNat 8
def Rc.head (r : Rc) : ByteArray := Oct.str r.k.toNat 1 ++ Oct.str r.x.toNat 4 ++ Oct.str r.pv.toNat 8 ++ Oct.str r.nx.toNat 8 ++ Oct.str r.fr.toNat 4
def Rc.upI (r : Rc) : Nat → ByteArray
  | 0 => r.head ++ r.u.bytes ++ Oct.str r.ni 1
  | j + 1 => r.upI j ++ (r.im j).bytes
def Rc.upL (r : Rc) : Nat → ByteArray
  | 0 => r.upI r.ni ++ Oct.str r.nl 1
  | j + 1 => r.upL j ++ (r.al j).bytes
def Rc.bytes (r : Rc) : ByteArray := r.upL r.nl

def Im.ok (m : Im) : Prop := isPgn m.id ∧ m.p.ok
instance (m : Im) : Decidable m.ok := by unfold Im.ok; infer_instance
def Al.ok (a : Al) : Prop := isNum a.x ∧ isPl a.f ∧ isPl a.l
instance (a : Al) : Decidable a.ok := by unfold Al.ok; infer_instance
def Rc.ok (r : Rc) : Prop := (1 ≤ r.k ∧ r.k ≤ 6 ∧ isNum r.x ∧ isNum r.fr) ∧ (isPl r.pv ∧ isPl r.nx ∧ r.u.ok) ∧ (r.ni ≤ 24 ∧ r.nl ≤ 8) ∧ (∀ i, i < r.ni → (r.im i).ok) ∧ ∀ i, i < r.nl → (r.al i).ok

theorem ba_size_append (a b : ByteArray) : (a ++ b).size = a.size + b.size := by simp
theorem text_size (s : ByteArray) : (Oct.text s).size = 1 + s.size := by
  unfold Oct.text
  rw [ba_size_append]
  rfl
theorem Un.bytes_size (u : Un) : u.bytes.size = 10 + u.key.size + u.bd.size := by
  unfold Un.bytes
  simp only [ba_size_append, Oct.str_size, text_size]
  omega
theorem Al.bytes_size (a : Al) : a.bytes.size = 20 := by
  unfold Al.bytes
  simp only [ba_size_append, Oct.str_size]
theorem Pg.bytes_size {p : Pg} (h : p.ok) : p.bytes.size = 224 := by
  have := Pg.upTo_size p h.2 6 (Nat.le_refl _)
  exact this
theorem Im.bytes_size {m : Im} (h : m.ok) : m.bytes.size = 228 := by
  unfold Im.bytes
  simp only [ba_size_append, Oct.str_size, Pg.bytes_size h.2]
theorem Rc.head_size (r : Rc) : r.head.size = 25 := by
  unfold Rc.head
  simp only [ba_size_append, Oct.str_size]
theorem Rc.upI_size {r : Rc} (h : ∀ i, i < r.ni → (r.im i).ok) : ∀ j, j ≤ r.ni → (r.upI j).size = 36 + r.u.key.size + r.u.bd.size + 228 * j
  | 0, _ => by simp only [Rc.upI, ba_size_append, Rc.head_size, Un.bytes_size, Oct.str_size]; omega
  | j + 1, hj => by simp only [Rc.upI, ba_size_append, Rc.upI_size h j (by omega), Im.bytes_size (h j (by omega))]; omega
theorem Rc.upL_size {r : Rc} (h : ∀ i, i < r.ni → (r.im i).ok) : ∀ j, j ≤ r.nl → (r.upL j).size = 37 + r.u.key.size + r.u.bd.size + 228 * r.ni + 20 * j
  | 0, _ => by simp only [Rc.upL, ba_size_append, Rc.upI_size h r.ni (Nat.le_refl _), Oct.str_size]; omega
  | j + 1, hj => by simp only [Rc.upL, ba_size_append, Rc.upL_size h j (by omega), Al.bytes_size]; omega
/-- A record has 37 bytes, its texts, 228 for each image and 20 for each that lives. -/
theorem Rc.bytes_size {r : Rc} (h : ∀ i, i < r.ni → (r.im i).ok) : r.bytes.size = 37 + r.u.key.size + r.u.bd.size + 228 * r.ni + 20 * r.nl := Rc.upL_size h r.nl (Nat.le_refl _)
end Go.Proofs.Ytggabnmfjooejaa
