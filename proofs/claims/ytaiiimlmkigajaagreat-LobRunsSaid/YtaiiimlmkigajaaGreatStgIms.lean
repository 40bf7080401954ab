/- A stage's Images. -/
import Derived.Test.YtaiiimlmkigajaaGreatStgNew
import Derived.Test.YtaiiimlmkigajaaGreatStgPure
import Derived.Test.YtaiiimlmkigajaaGreatApp1
import Derived.Test.YtaiiimlmkigajaaGreatShelf
import Derived.Test.YtaiiimlmkigajaaGreatOwn
import Derived.StillTailTactics
import Derived.Great.BuildSlice
set_option linter.unusedVariables false
set_option linter.unusedSimpArgs false
namespace Go.Proofs.YtaiiimlmkigajaaGreat
open Go.RowKit Go.Maps

theorem flatIm_app (l : List Im) (i : Im) : flatIm (l ++ [i]) = flatIm l ++ i.cs.toList := by unfold flatIm; simp
theorem Tryz.info3 : (Tryz.prog.info? 3).map (fun i => (i.zero, i.size, i.bytes)) = some (some (.int .i64 0), 1, 8) := by kernel_rfl
theorem still_look1 {P : Program} {w : World} {ops : Array Oper} {rest : List Oper} {o : Oper} {a : Act} {Q : Act → Prop} (hg : o.guard = none) (m x : Operand) (t : TypeId) (hop : o.op = Op.lookup t m x false) (k e : TypeId) (K : Keyed P k) (ht : P.underlying t = some (.map k e)) {z : Value} (hz : (zeroValue e).run P w = .ok z w) (b n : Nat) (f : Lit → Option Value)
    (hm : a.eval m = .map (some b)) (hown : Mp w P k b n f) (key : Value) (kl : Lit) (hx : a.eval x = key) (hkey : keyOf P k key = some kl)
    (h : wpStill P ops w Q rest (a.put o.dst ((f kl).getD z))) : wpStill P ops w Q (o :: rest) a := by
  refine wpStill_step fun K' hK' => ?_
  obtain ⟨-, hrun⟩ := hown.look K ht hz hkey
  have hw : Region.wanted o (yielded ops a.tmps) = true := by simp [Region.wanted, hg]
  rw [if_pos hw]
  unfold Oper.still execOp
  simp only [hop, hm, hx, hrun, Sem.run_bind, Sem.run_pure, Result.andThen_ok]
  exact ⟨rfl, hK' _ h⟩
end Go.Proofs.YtaiiimlmkigajaaGreat
