/-
  DERIVED. GIVEN WITH THE SEED: THE CARDS: each row of YtnpnpkaklamboaaDoorRows.lean that lists a variable, with what it lists TIED to the program's text (the seventh form; the later family's looks); each row that meets fmt, with fmt's text TOLD by the authors' own Lean function (tested against real Go, not proved from fmt's source: count such statements apart). THE CARD IS WHAT COUNTS. Prove the row's statement (the work); the ties are given (YtnpnpkaklamboaaDoorTie.lean); close each card by the builder's one call (the guide's Derived/Test/ToyasCard.lean, 'card_holds'). Laid BY PROGRAM, IN A SANDBOX (cutbox-door.mjs). By AI agents, Wed Nov 11 2026. No macro, syntax, notation, axiom, sorry.
-/
import Derived.Test.YtnpnpkaklamboaaDoorRows
import GoSem.ClaimSeven
namespace Go.Proofs.YtnpnpkaklamboaaDoor
namespace Rows

/-- THE TIED CARD OF 'jettylaw09.LocksTogether'. -/
def locksTogetherCard : Claim7 := { stood := { row := locksTogetherRow, standIns := [], harness := (true, "b4fadddceefd7e54af7021ba75b04ba00aed6c3700634b6080e3ffc54206897a"), looks := false }, kinds := [], alts := [], laidByText := true, laidKinds := [.data], laidTests := true, laidLooks := .later }
def LocksTogetherCardSaid : Prop := Claim7.holds Tryd.pinned (.plain (OpenSpec.ofChange locksTogetherSpec)) locksTogetherCard

/-- THE TIED CARD OF 'jettylaw09.LocksFair'. -/
def locksFairCard : Claim7 := { stood := { row := locksFairRow, standIns := [], harness := (true, "b4fadddceefd7e54af7021ba75b04ba00aed6c3700634b6080e3ffc54206897a"), looks := false }, kinds := [], alts := [], laidByText := true, laidKinds := [.data], laidTests := true, laidLooks := .later }
def LocksFairCardSaid : Prop := Claim7.holds Tryd.pinned (.plain (OpenSpec.ofChange locksFairSpec)) locksFairCard

/-- THE TIED CARD OF 'jettylaw09.LocksAlone'. -/
def locksAloneCard : Claim7 := { stood := { row := locksAloneRow, standIns := [], harness := (true, "b4fadddceefd7e54af7021ba75b04ba00aed6c3700634b6080e3ffc54206897a"), looks := false }, kinds := [], alts := [], laidByText := true, laidKinds := [.data], laidTests := true, laidLooks := .later }
def LocksAloneCardSaid : Prop := Claim7.holds Tryd.pinned (.plain (OpenSpec.ofChange locksAloneSpec)) locksAloneCard

/-- THE TIED CARD OF 'jettylaw09.LocksNames'. -/
def locksNamesCard : Claim7 := { stood := { row := locksNamesRow, standIns := [], harness := (true, "b4fadddceefd7e54af7021ba75b04ba00aed6c3700634b6080e3ffc54206897a"), looks := false }, kinds := [], alts := [], laidByText := true, laidKinds := [.data], laidTests := true, laidLooks := .later }
def LocksNamesCardSaid : Prop := Claim7.holds Tryd.pinned (.plain (OpenSpec.ofChange locksNamesSpec)) locksNamesCard

/-- THE TIED CARD OF 'jettylaw09.LocksFirst'. -/
def locksFirstCard : Claim7 := { stood := { row := locksFirstRow, standIns := [], harness := (true, "b4fadddceefd7e54af7021ba75b04ba00aed6c3700634b6080e3ffc54206897a"), looks := false }, kinds := [], alts := [], laidByText := true, laidKinds := [.data], laidTests := true, laidLooks := .later }
def LocksFirstCardSaid : Prop := Claim7.holds Tryd.pinned (.plain (OpenSpec.ofChange locksFirstSpec)) locksFirstCard

/-- THE TIED CARD OF 'jettylaw09.LocksGreater'. -/
def locksGreaterCard : Claim7 := { stood := { row := locksGreaterRow, standIns := [], harness := (true, "b4fadddceefd7e54af7021ba75b04ba00aed6c3700634b6080e3ffc54206897a"), looks := false }, kinds := [], alts := [], laidByText := true, laidKinds := [.data], laidTests := true, laidLooks := .later }
def LocksGreaterCardSaid : Prop := Claim7.holds Tryd.pinned (.plain (OpenSpec.ofChange locksGreaterSpec)) locksGreaterCard

/-- THE SECOND FORM's CARD OF 'jettylaw09.LocksTogether'. -/
def locksTogetherUptoCard : Claim7 := { stood := { row := locksTogetherUptoRow, standIns := [], harness := (true, "b4fadddceefd7e54af7021ba75b04ba00aed6c3700634b6080e3ffc54206897a"), looks := false }, kinds := [], alts := [], laidByText := true, laidKinds := [.data], laidTests := true, laidLooks := .later }
def LocksTogetherUptoCardSaid : Prop := Claim7.holds Tryd.pinned (.plain (OpenSpec.upto locksTogetherSpec)) locksTogetherUptoCard

/-- THE SECOND FORM's CARD OF 'jettylaw09.LocksFair'. -/
def locksFairUptoCard : Claim7 := { stood := { row := locksFairUptoRow, standIns := [], harness := (true, "b4fadddceefd7e54af7021ba75b04ba00aed6c3700634b6080e3ffc54206897a"), looks := false }, kinds := [], alts := [], laidByText := true, laidKinds := [.data], laidTests := true, laidLooks := .later }
def LocksFairUptoCardSaid : Prop := Claim7.holds Tryd.pinned (.plain (OpenSpec.upto locksFairSpec)) locksFairUptoCard

/-- THE SECOND FORM's CARD OF 'jettylaw09.LocksAlone'. -/
def locksAloneUptoCard : Claim7 := { stood := { row := locksAloneUptoRow, standIns := [], harness := (true, "b4fadddceefd7e54af7021ba75b04ba00aed6c3700634b6080e3ffc54206897a"), looks := false }, kinds := [], alts := [], laidByText := true, laidKinds := [.data], laidTests := true, laidLooks := .later }
def LocksAloneUptoCardSaid : Prop := Claim7.holds Tryd.pinned (.plain (OpenSpec.upto locksAloneSpec)) locksAloneUptoCard

/-- THE SECOND FORM's CARD OF 'jettylaw09.LocksNames'. -/
def locksNamesUptoCard : Claim7 := { stood := { row := locksNamesUptoRow, standIns := [], harness := (true, "b4fadddceefd7e54af7021ba75b04ba00aed6c3700634b6080e3ffc54206897a"), looks := false }, kinds := [], alts := [], laidByText := true, laidKinds := [.data], laidTests := true, laidLooks := .later }
def LocksNamesUptoCardSaid : Prop := Claim7.holds Tryd.pinned (.plain (OpenSpec.upto locksNamesSpec)) locksNamesUptoCard

/-- THE SECOND FORM's CARD OF 'jettylaw09.LocksFirst'. -/
def locksFirstUptoCard : Claim7 := { stood := { row := locksFirstUptoRow, standIns := [], harness := (true, "b4fadddceefd7e54af7021ba75b04ba00aed6c3700634b6080e3ffc54206897a"), looks := false }, kinds := [], alts := [], laidByText := true, laidKinds := [.data], laidTests := true, laidLooks := .later }
def LocksFirstUptoCardSaid : Prop := Claim7.holds Tryd.pinned (.plain (OpenSpec.upto locksFirstSpec)) locksFirstUptoCard

/-- THE SECOND FORM's CARD OF 'jettylaw09.LocksGreater'. -/
def locksGreaterUptoCard : Claim7 := { stood := { row := locksGreaterUptoRow, standIns := [], harness := (true, "b4fadddceefd7e54af7021ba75b04ba00aed6c3700634b6080e3ffc54206897a"), looks := false }, kinds := [], alts := [], laidByText := true, laidKinds := [.data], laidTests := true, laidLooks := .later }
def LocksGreaterUptoCardSaid : Prop := Claim7.holds Tryd.pinned (.plain (OpenSpec.upto locksGreaterSpec)) locksGreaterUptoCard
end Rows
end Go.Proofs.YtnpnpkaklamboaaDoor
