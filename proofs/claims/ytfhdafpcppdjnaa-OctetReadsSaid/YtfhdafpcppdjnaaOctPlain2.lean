/- More plain facts on numbers as bytes. -/
import Derived.Test.YtfhdafpcppdjnaaOctPlain
import Derived.Deep.Draws
set_option linter.unusedVariables false
set_option linter.unusedSimpArgs false
namespace Go.Proofs.Ytfhdafpcppdjnaa
namespace Oct
theorem rest_mono {a b : Nat} (j : Nat) (h : a ≤ b) : rest a j ≤ rest b j := Nat.div_le_div_right h
theorem order_lt {a b j : Nat} (h : rest a (j + 1) = rest b (j + 1)) (hl : rest a j % 256 < rest b j % 256) : a < b := by
  rw [rest_succ, rest_succ] at h
  rcases Nat.lt_or_ge a b with g | g
  · exact g
  · have := rest_mono j g
    omega
theorem order_eq {a b j : Nat} (h : rest a (j + 1) = rest b (j + 1)) (hl : rest a j % 256 = rest b j % 256) : rest a j = rest b j := by
  rw [rest_succ, rest_succ] at h
  omega
theorem str_get (n k j : Nat) (h : j < (str n k).size) : (str n k)[j].toNat = rest n j % 256 := by
  have hj : j < k := by rwa [str_size] at h
  have e : (str n k)[j] = (str n k).data[j]'h := rfl
  rw [e]
  simp [str, bytesOf, bs, rest]
theorem below_drewN {B : Nat} {a w : World} (h : Go.RowKit.Below B a w) (n : Nat) : Go.RowKit.Below B a (w.drewN n) := ⟨h.os, h.tape, h.output, h.size, h.block⟩
end Oct
end Go.Proofs.Ytfhdafpcppdjnaa
