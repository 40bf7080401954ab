/-
  NARROWER THAN 'FOR EVERY INPUT', by the rows' own cells (each row's printed sentence says how): PlanNeeds: laid · PlanAbove: laid · PlanPure: laid.
  DERIVED. THE GIVEN ROWS OF THIS SEAT. 3 by the template 'for every input the law returns true; each argument reads behind the call as it read before'; 0 by the template 'total and deterministic' (their statements: YtokghbppdmlfkaaDoorTotals.lean).
  GIVEN WITH THE SEED: the statements are not yours to turn. If you find one false, say at which input.
  Laid BY PROGRAM, IN A SANDBOX (cutbox-rows.mjs): the forced cells as the released guide's own fill.sh prints them over the translation 0b069b87eabd930f… (all of the seat's roots in one cut). By AI agents, Wed Nov 11 2026. No macro, syntax, notation, axiom, sorry.
-/
import Derived.Test.YtokghbppdmlfkaaDoorChecked
import GoSem.Claim
import GoSem.ClaimJoined
import GoSem.ClaimMapViews
import Derived.JoinedTies
import Derived.KernelRfl
namespace Go.Proofs.YtokghbppdmlfkaaDoor
/- THE CELL 'sum', in the pinned program and in every row, IS THE sha256 OF THE DUMP (.gsa) THAT YtokghbppdmlfkaaDoorProg.lean LOADS. Nothing in Lean hashes anything: it is a label: what it is worth is what the hold of that sum in a sandbox is worth. -/
noncomputable def Tryd.pinned : Pinned := { name := "ytokghbppdmlfkaadoor", sum := "0b069b87eabd930f165503ed1d89198b1b20147a89f8906a4d92a80953534b9d", checked := Tryd.checked }
namespace Rows
def none {H : Type} : Left H := { results := [], args := [] }

/- WHAT THE LISTED PACKAGE-LEVEL VARIABLES READ AS WHEN THE CALL BEGINS. Each datum BY PROGRAM (the guide's laid-datum.mjs) off the statement by which the dump's own 'gosem.cut.vars' lays the variable. In a bare row this is a premise. The card (YtokghbppdmlfkaaDoorCards.lean) ties it to the program's text. -/
def laid_jetty_modes_rights {H : Type} : DataW H := .agg [.lit (.int .i64 0), .lit (.int .i64 1), .lit (.int .i64 3), .lit (.int .i64 5), .lit (.int .i64 7), .lit (.int .i64 13), .lit (.int .i64 31)]

/-- 'jettylaw20.PlanNeeds': WHATEVER THE INPUT: true; the input reads as it did. -/
def planNeedsSpec : ChangeSpec := { name := "planNeeds", fn := fun _ => fun
  | [d] => { results := [.lit (.bool true)], args := [d] }
  | _ => none }
def planNeedsRow : OpenClaim := { program := "ytokghbppdmlfkaadoor", sum := "0b069b87eabd930f165503ed1d89198b1b20147a89f8906a4d92a80953534b9d", func := "jetty/jettylaw20.PlanNeeds", spec := "planNeeds", unfollowed := true, recurses := true, named := ["jetty/modes.rights"], apart := false, laid := [("jetty/modes.rights", laid_jetty_modes_rights)] }
def PlanNeedsSaid : Prop := planNeedsRow.holds Tryd.pinned (OpenSpec.ofChange planNeedsSpec)

/-- ITS FALSE NEIGHBOUR: 'it returns false'. Refute it at one input. -/
def planNeedsWrong : ChangeSpec := { name := "planNeeds", fn := fun _ => fun
  | [d] => { results := [.lit (.bool false)], args := [d] }
  | _ => none }
def PlanNeedsWrongFalsely : Prop := planNeedsRow.holds Tryd.pinned (OpenSpec.ofChange planNeedsWrong)

/-- 'jettylaw20.PlanAbove': WHATEVER THE INPUT: true; the input reads as it did. -/
def planAboveSpec : ChangeSpec := { name := "planAbove", fn := fun _ => fun
  | [d1, d2, d3] => { results := [.lit (.bool true)], args := [d1, d2, d3] }
  | _ => none }
def planAboveRow : OpenClaim := { program := "ytokghbppdmlfkaadoor", sum := "0b069b87eabd930f165503ed1d89198b1b20147a89f8906a4d92a80953534b9d", func := "jetty/jettylaw20.PlanAbove", spec := "planAbove", unfollowed := true, recurses := true, named := ["jetty/modes.rights"], apart := false, laid := [("jetty/modes.rights", laid_jetty_modes_rights)] }
def PlanAboveSaid : Prop := planAboveRow.holds Tryd.pinned (OpenSpec.ofChange planAboveSpec)

/-- ITS FALSE NEIGHBOUR: 'it returns false'. Refute it at one input. -/
def planAboveWrong : ChangeSpec := { name := "planAbove", fn := fun _ => fun
  | [d1, d2, d3] => { results := [.lit (.bool false)], args := [d1, d2, d3] }
  | _ => none }
def PlanAboveWrongFalsely : Prop := planAboveRow.holds Tryd.pinned (OpenSpec.ofChange planAboveWrong)

/-- 'jettylaw20.PlanPure': WHATEVER THE INPUT: true; the input reads as it did. -/
def planPureSpec : ChangeSpec := { name := "planPure", fn := fun _ => fun
  | [d1, d2] => { results := [.lit (.bool true)], args := [d1, d2] }
  | _ => none }
def planPureRow : OpenClaim := { program := "ytokghbppdmlfkaadoor", sum := "0b069b87eabd930f165503ed1d89198b1b20147a89f8906a4d92a80953534b9d", func := "jetty/jettylaw20.PlanPure", spec := "planPure", unfollowed := true, recurses := true, named := ["jetty/modes.rights"], apart := false, laid := [("jetty/modes.rights", laid_jetty_modes_rights)] }
def PlanPureSaid : Prop := planPureRow.holds Tryd.pinned (OpenSpec.ofChange planPureSpec)

/-- ITS FALSE NEIGHBOUR: 'it returns false'. Refute it at one input. -/
def planPureWrong : ChangeSpec := { name := "planPure", fn := fun _ => fun
  | [d1, d2] => { results := [.lit (.bool false)], args := [d1, d2] }
  | _ => none }
def PlanPureWrongFalsely : Prop := planPureRow.holds Tryd.pinned (OpenSpec.ofChange planPureWrong)

/- THE SECOND FORM. 'bulk': how many values and letters a reading holds, each counted each time it is reached (what is shared counts as often as it is met; a slice's spare places count too). A statement '..UptoSaid' is the law's where the arguments, and the package variables that the reading takes, are together of bulk at most 1048576: NARROWER than '..Said'. Prove '..Said' where nothing that the law and all that it calls make is longer than what came in: it says more and counts as full. Else prove '..UptoSaid'. A law counts once. -/
mutual
def uptoBulk {H : Type} : DataW H → Nat
  | .lit (.string bytes) => bytes.length + 1
  | .lit _ => 1
  | .nil => 1
  | .ptr d => uptoBulk d + 1
  | .slice elems spare => uptoBulkAll elems + uptoBulkAll spare + 1
  | .agg parts => uptoBulkAll parts + 1
  | .iface _ d => uptoBulk d + 1
  | .map entries => uptoBulkEntries entries + 1
  | .held _ => 1
def uptoBulkAll {H : Type} : List (DataW H) → Nat
  | [] => 0
  | d :: r => uptoBulk d + uptoBulkAll r
def uptoBulkEntries {H : Type} : List (Lit × DataW H) → Nat
  | [] => 0
  | x :: r => uptoBulkEntry x + uptoBulkEntries r
def uptoBulkEntry {H : Type} : Lit × DataW H → Nat
  | (.string bytes, d) => bytes.length + uptoBulk d + 1
  | (_, d) => uptoBulk d + 1
 end
def uptoSmall : (H : Type) → List (DataW H) → Bool := fun _ ds => decide (uptoBulkAll ds ≤ 1048576)
def OpenSpec.upto (s : _root_.Go.ChangeSpec) : _root_.Go.OpenSpec := { _root_.Go.OpenSpec.ofChange s with cond := some uptoSmall }

/-- 'jettylaw20.PlanNeeds', WHERE WHAT IT READS IS OF BULK AT MOST 1048576: true; the input reads as it did. -/
def planNeedsUptoRow : OpenClaim := { program := "ytokghbppdmlfkaadoor", sum := "0b069b87eabd930f165503ed1d89198b1b20147a89f8906a4d92a80953534b9d", func := "jetty/jettylaw20.PlanNeeds", spec := "planNeeds", unfollowed := true, recurses := true, named := ["jetty/modes.rights"], apart := false, laid := [("jetty/modes.rights", laid_jetty_modes_rights)], narrowed := true }
def PlanNeedsUptoSaid : Prop := planNeedsUptoRow.holds Tryd.pinned (OpenSpec.upto planNeedsSpec)

/-- 'jettylaw20.PlanAbove', WHERE WHAT IT READS IS OF BULK AT MOST 1048576: true; the input reads as it did. -/
def planAboveUptoRow : OpenClaim := { program := "ytokghbppdmlfkaadoor", sum := "0b069b87eabd930f165503ed1d89198b1b20147a89f8906a4d92a80953534b9d", func := "jetty/jettylaw20.PlanAbove", spec := "planAbove", unfollowed := true, recurses := true, named := ["jetty/modes.rights"], apart := false, laid := [("jetty/modes.rights", laid_jetty_modes_rights)], narrowed := true }
def PlanAboveUptoSaid : Prop := planAboveUptoRow.holds Tryd.pinned (OpenSpec.upto planAboveSpec)

/-- 'jettylaw20.PlanPure', WHERE WHAT IT READS IS OF BULK AT MOST 1048576: true; the input reads as it did. -/
def planPureUptoRow : OpenClaim := { program := "ytokghbppdmlfkaadoor", sum := "0b069b87eabd930f165503ed1d89198b1b20147a89f8906a4d92a80953534b9d", func := "jetty/jettylaw20.PlanPure", spec := "planPure", unfollowed := true, recurses := true, named := ["jetty/modes.rights"], apart := false, laid := [("jetty/modes.rights", laid_jetty_modes_rights)], narrowed := true }
def PlanPureUptoSaid : Prop := planPureUptoRow.holds Tryd.pinned (OpenSpec.upto planPureSpec)

end Rows
end Go.Proofs.YtokghbppdmlfkaaDoor
