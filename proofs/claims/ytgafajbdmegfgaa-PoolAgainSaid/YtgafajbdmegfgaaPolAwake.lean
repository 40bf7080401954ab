/- Layer 12: awake. -/
import Derived.Test.YtgafajbdmegfgaaPolThy
import Derived.Test.YtgafajbdmegfgaaPolBad
import Derived.Test.YtgafajbdmegfgaaWalMake
import Derived.Test.YtgafajbdmegfgaaPgCmp
set_option linter.unusedVariables false
set_option linter.unusedSimpArgs false
namespace Go.Proofs.Ytgafajbdmegfgaa
open Go.RowKit

def pgH1 : Pg := ⟨3, 0, 1, 0, fun _ => ⟨0, ⟨#[]⟩⟩⟩
theorem pgH1_ok : pgH1.ok := ⟨by unfold Pg.head pgH1; decide, fun i _ => .inl ⟨rfl, rfl⟩⟩
section
variable {ops : Array Oper} {rest : List Oper} {o : Oper} {a : Act} {w : World} {Q : Exit → Act → World → Prop}
theorem pbuildH1 (hg : o.guard = none) (ho : o.op = .build 40 #[(0, .const (.int .i64 3)), (2, .const (.int .i64 1))]) (h : wpList Try.prog ops Q rest (a.put o.dst (.agg pgH1.cs)) w) : wpList Try.prog ops Q (o :: rest) a w := by
  refine wpList_plain hg fun K' hK' => ?_
  have hb : (Instr.build 40 #[(0, .int .i64 3), (2, .int .i64 1)]).run Try.prog w = .ok (.agg pgH1.cs) w := by kernel_rfl
  unfold Oper.wp execOp
  simp only [ho, Sem.run_bind, Sem.run_pure, Result.andThen_ok, List.map_toArray, List.map_cons, List.map_nil, Act.eval, hb]
  exact hK' _ _ h
end
/-- A volume under way: device, log, pool; what its pages are. -/
structure Ps (w : World) (B : Nat) (I : Wd) (J : Pd) (P : Po) (L : Lg) (S : Dsk) (Now : Nat → Pg) (St : Nat → Nat) : Prop where
  wl : Wl w B I L S
  pq : Pq w B J P
  ed : J.dp = I.d.ptr
  el : J.lp = I.ptr
  pv : Pv P S Now St
  fb : L.first + L.n ≤ P.base
  hB : B ≤ w.heap.size
theorem Ps.kept {w w' : World} {B : Nat} {I : Wd} {J : Pd} {P : Po} {L : Lg} {S : Dsk} {Now : Nat → Pg} {St : Nat → Nat} (h : Ps w B I J P L S Now St) (hb : Below w.heap.size w w') : Ps w' B I J P L S Now St :=
  ⟨h.wl.kept hb, h.pq.kept hb, h.ed, h.el, h.pv, h.fb, Nat.le_trans h.hB hb.size⟩
/-- Get, of a volume under way. -/
theorem ps_get {w : World} {B : Nat} {I : Wd} {J : Pd} {P : Po} {L : Lg} {S : Dsk} {Now : Nat → Pg} {St : Nat → Nat} (h : Ps w B I J P L S Now St) (id : Nat) (hid : id < P.pages) :
    Calls Try.prog 12 #[J.ptr, .int .i64 (id : Int)] w fun e w' => ∃ (J' : Pd) (P' : Po) (x : Pg), e = .returned (.tuple #[.agg x.cs, .int .i64 0]) ∧ x.cs = (Now id).cs ∧ J'.g = J.g ∧ Ps w' B I J' P' L S Now St ∧ P'.base = P.base ∧ P'.pages = P.pages ∧ P'.frames = P.frames ∧ Out w w' (PF B w) := by
  refine (pget_any h.wl.dsk h.pq h.ed id hid h.pv.fit h.hB).mono ?_
  rintro e w' ⟨J', P', x, er, rfl, hq, eg, edp, elp, hr, ho⟩
  obtain ⟨rfl, hx, hv, e1, e2, e3⟩ := h.pv.get hid hr
  exact ⟨J', P', x, rfl, hx, eg, ⟨h.wl.sf ho, hq, edp.trans h.ed, elp.trans h.el, hv, by rw [e1]; exact h.fb, Nat.le_trans h.hB ho.size⟩, e1, e2, e3, sf_pf ho⟩
/-- Put, of a volume under way. -/
theorem ps_put {w : World} {B : Nat} {I : Wd} {J : Pd} {P : Po} {L : Lg} {S : Dsk} {Now : Nat → Pg} {St : Nat → Nat} (h : Ps w B I J P L S Now St) (id : Nat) (hid : id < P.pages) (x : Pg) (hx : x.ok) (st : Nat) (hst : st ≤ 9223372036854775807) (hp : S.pend.length ≤ 2199023255552) :
    Calls Try.prog 15 #[J.ptr, .int .i64 (id : Int), .agg x.cs, .int .i64 (st : Int)] w fun e w' => ∃ (p' : Value) (J' : Pd) (P' : Po) (L' : Lg) (S' : Dsk), e = .returned (.int .i64 0) ∧ J'.g = J.g ∧ PutRel P L S id x st P' L' S' 0 ∧
      Ps w' B ⟨I.g, I.d.with p', I.dv, I.pv⟩ J' P' L' S' (updN Now id x) (updN St id st) ∧ P'.base = P.base ∧ P'.pages = P.pages ∧ P'.frames = P.frames ∧ Out w w' (PF B w) := by
  refine (pput_any h.wl h.pq h.ed h.el id hid x hx st hst h.pv.good h.hB hp).mono ?_
  rintro e w' ⟨er, p', J', P', L', S', rfl, hw, hq, eg, edp, elp, hr, ho⟩
  obtain ⟨rfl, hv, e1, e2, e3⟩ := h.pv.put h.pq.ok h.wl.ok h.fb hid hx hr
  refine ⟨p', J', P', L', S', rfl, eg, hr, ⟨hw, hq, edp.trans h.ed, elp.trans h.el, hv, ?_, Nat.le_trans h.hB ho.size⟩, e1, e2, e3, ho⟩
  rw [e1]
  rcases hr with ⟨_, _, _, rfl, _⟩ | ⟨_, P1, i, hroom, _⟩
  · exact h.fb
  · rcases hroom with ⟨_, _, _, rfl, _⟩ | ⟨P2, k, hi2, _, _, hfl, _⟩
    · exact h.fb
    · have := sflush_ok h.wl.ok S (P2.ss[i]) P2.base
      rw [← hfl] at this
      dsimp only at this
      rw [this.2.1, this.2.2]
      exact h.fb
end Go.Proofs.Ytgafajbdmegfgaa
