/- Strings of zeros. No program in sight. -/
import Derived.Test.YtgafajbdmegfgaaGreatOctPlain
set_option linter.unusedVariables false
set_option linter.unusedSimpArgs false
namespace Go.Proofs.YtgafajbdmegfgaaGreat
open Go.RowKit
namespace Fr
/-- A block of zeros, and the string that it makes. -/
def zc (n : Nat) : Array Value := madeCells #[Value.int .u8 0] n
def zs (n : Nat) : ByteArray := ⟨(List.replicate n (0 : UInt8)).toArray⟩
theorem zs_size (n : Nat) : (zs n).size = n := by
  show (zs n).data.size = n
  simp [zs]
theorem run_zeros {P : Program} (w : World) (src dst e : TypeId) (n : Nat)
    (hs : P.underlying src = some (.slice e)) (he : P.underlying e = some (.int .u8)) (hd : P.underlying dst = some .string) :
    (convert src dst (.slice (some ⟨w.heap.size, 0, none⟩) n n)).run P (w.alloc (.cells (zc n) e)) = .ok (.string (zs n)) (w.alloc (.cells (zc n) e)) := by
  rw [Oct.run_string _ src dst e _ n n (List.replicate n 0) hs he hd (by simp)]
  · simp [zs]
  · intro j v hv
    rw [Oct.cell_add_new]
    have hj : j < n := by
      have := (List.getElem?_eq_some_iff.1 hv).1
      simpa using this
    simp [zc, madeCells, hj, Nat.mod_one]
    simpa [hj] using hv

end Fr
end Go.Proofs.YtgafajbdmegfgaaGreat
