/-
  DERIVED. GIVEN WITH THE SEED: THE CARDS: each row of YtokghbppdmlfkaaDoorRows.lean that lists a variable, with what it lists TIED to the program's text (the seventh form; the later family's looks); each row that meets fmt, with fmt's text TOLD by the authors' own Lean function (tested against real Go, not proved from fmt's source: count such statements apart). THE CARD IS WHAT COUNTS. Prove the row's statement (the work); the ties are given (YtokghbppdmlfkaaDoorTie.lean); close each card by the builder's one call (the guide's Derived/Test/ToyasCard.lean, 'card_holds'). Laid BY PROGRAM, IN A SANDBOX (cutbox-door.mjs). By AI agents, Wed Nov 11 2026. No macro, syntax, notation, axiom, sorry.
-/
import Derived.Test.YtokghbppdmlfkaaDoorRows
import GoSem.ClaimSeven
namespace Go.Proofs.YtokghbppdmlfkaaDoor
namespace Rows

/-- THE TIED CARD OF 'jettylaw20.PlanNeeds'. -/
def planNeedsCard : Claim7 := { stood := { row := planNeedsRow, standIns := [], harness := (true, "a6e6de656b7a5643a0bd45d00c63d7d18137dd564bc62f6eb1e4bcfbd4f287b4"), looks := false }, kinds := [], alts := [], laidByText := true, laidKinds := [.data], laidTests := true, laidLooks := .later }
def PlanNeedsCardSaid : Prop := Claim7.holds Tryd.pinned (.plain (OpenSpec.ofChange planNeedsSpec)) planNeedsCard

/-- THE TIED CARD OF 'jettylaw20.PlanAbove'. -/
def planAboveCard : Claim7 := { stood := { row := planAboveRow, standIns := [], harness := (true, "a6e6de656b7a5643a0bd45d00c63d7d18137dd564bc62f6eb1e4bcfbd4f287b4"), looks := false }, kinds := [], alts := [], laidByText := true, laidKinds := [.data], laidTests := true, laidLooks := .later }
def PlanAboveCardSaid : Prop := Claim7.holds Tryd.pinned (.plain (OpenSpec.ofChange planAboveSpec)) planAboveCard

/-- THE TIED CARD OF 'jettylaw20.PlanPure'. -/
def planPureCard : Claim7 := { stood := { row := planPureRow, standIns := [], harness := (true, "a6e6de656b7a5643a0bd45d00c63d7d18137dd564bc62f6eb1e4bcfbd4f287b4"), looks := false }, kinds := [], alts := [], laidByText := true, laidKinds := [.data], laidTests := true, laidLooks := .later }
def PlanPureCardSaid : Prop := Claim7.holds Tryd.pinned (.plain (OpenSpec.ofChange planPureSpec)) planPureCard

/-- THE SECOND FORM's CARD OF 'jettylaw20.PlanNeeds'. -/
def planNeedsUptoCard : Claim7 := { stood := { row := planNeedsUptoRow, standIns := [], harness := (true, "a6e6de656b7a5643a0bd45d00c63d7d18137dd564bc62f6eb1e4bcfbd4f287b4"), looks := false }, kinds := [], alts := [], laidByText := true, laidKinds := [.data], laidTests := true, laidLooks := .later }
def PlanNeedsUptoCardSaid : Prop := Claim7.holds Tryd.pinned (.plain (OpenSpec.upto planNeedsSpec)) planNeedsUptoCard

/-- THE SECOND FORM's CARD OF 'jettylaw20.PlanAbove'. -/
def planAboveUptoCard : Claim7 := { stood := { row := planAboveUptoRow, standIns := [], harness := (true, "a6e6de656b7a5643a0bd45d00c63d7d18137dd564bc62f6eb1e4bcfbd4f287b4"), looks := false }, kinds := [], alts := [], laidByText := true, laidKinds := [.data], laidTests := true, laidLooks := .later }
def PlanAboveUptoCardSaid : Prop := Claim7.holds Tryd.pinned (.plain (OpenSpec.upto planAboveSpec)) planAboveUptoCard

/-- THE SECOND FORM's CARD OF 'jettylaw20.PlanPure'. -/
def planPureUptoCard : Claim7 := { stood := { row := planPureUptoRow, standIns := [], harness := (true, "a6e6de656b7a5643a0bd45d00c63d7d18137dd564bc62f6eb1e4bcfbd4f287b4"), looks := false }, kinds := [], alts := [], laidByText := true, laidKinds := [.data], laidTests := true, laidLooks := .later }
def PlanPureUptoCardSaid : Prop := Claim7.holds Tryd.pinned (.plain (OpenSpec.upto planPureSpec)) planPureUptoCard
end Rows
end Go.Proofs.YtokghbppdmlfkaaDoor
