/-
  DERIVED. GIVEN WITH THE SEED: THE CARDS: each row of YticncaomingnpaaDoorRows.lean that lists a variable, with what it lists TIED to the program's text (the seventh form; the later family's looks); each row that meets fmt, with fmt's text TOLD by the authors' own Lean function (tested against real Go, not proved from fmt's source: count such statements apart). THE CARD IS WHAT COUNTS. Prove the row's statement (the work); the ties are given (YticncaomingnpaaDoorTie.lean); close each card by the builder's one call (the guide's Derived/Test/ToyasCard.lean, 'card_holds'). Laid BY PROGRAM, IN A SANDBOX (cutbox-door.mjs). By AI agents, Wed Nov 11 2026. No macro, syntax, notation, axiom, sorry.
-/
import Derived.Test.YticncaomingnpaaDoorRows
import GoSem.ClaimSeven
namespace Go.Proofs.YticncaomingnpaaDoor
namespace Rows

/-- THE TIED CARD OF 'jettylaw08.ModesTables'. -/
def modesTablesCard : Claim7 := { stood := { row := modesTablesRow, standIns := [], harness := (true, "29d1354011583654f6965e734faf778ac047429697c058d79143d63c98d918e4"), looks := false }, kinds := [], alts := [], laidByText := true, laidKinds := [.data], laidTests := true, laidLooks := .later }
def ModesTablesCardSaid : Prop := Claim7.holds Tryd.pinned (.plain (OpenSpec.ofChange modesTablesSpec)) modesTablesCard

/-- THE TIED CARD OF 'jettylaw08.ModesJoin'. -/
def modesJoinCard : Claim7 := { stood := { row := modesJoinRow, standIns := [], harness := (true, "29d1354011583654f6965e734faf778ac047429697c058d79143d63c98d918e4"), looks := false }, kinds := [], alts := [], laidByText := true, laidKinds := [.data], laidTests := true, laidLooks := .later }
def ModesJoinCardSaid : Prop := Claim7.holds Tryd.pinned (.plain (OpenSpec.ofChange modesJoinSpec)) modesJoinCard

/-- THE TIED CARD OF 'jettylaw08.ModesOrder'. -/
def modesOrderCard : Claim7 := { stood := { row := modesOrderRow, standIns := [], harness := (true, "29d1354011583654f6965e734faf778ac047429697c058d79143d63c98d918e4"), looks := false }, kinds := [], alts := [], laidByText := true, laidKinds := [.data], laidTests := true, laidLooks := .later }
def ModesOrderCardSaid : Prop := Claim7.holds Tryd.pinned (.plain (OpenSpec.ofChange modesOrderSpec)) modesOrderCard

/-- THE TIED CARD OF 'jettylaw08.ModesWeaker'. -/
def modesWeakerCard : Claim7 := { stood := { row := modesWeakerRow, standIns := [], harness := (true, "29d1354011583654f6965e734faf778ac047429697c058d79143d63c98d918e4"), looks := false }, kinds := [], alts := [], laidByText := true, laidKinds := [.data], laidTests := true, laidLooks := .later }
def ModesWeakerCardSaid : Prop := Claim7.holds Tryd.pinned (.plain (OpenSpec.ofChange modesWeakerSpec)) modesWeakerCard

/-- THE SECOND FORM's CARD OF 'jettylaw08.ModesTables'. -/
def modesTablesUptoCard : Claim7 := { stood := { row := modesTablesUptoRow, standIns := [], harness := (true, "29d1354011583654f6965e734faf778ac047429697c058d79143d63c98d918e4"), looks := false }, kinds := [], alts := [], laidByText := true, laidKinds := [.data], laidTests := true, laidLooks := .later }
def ModesTablesUptoCardSaid : Prop := Claim7.holds Tryd.pinned (.plain (OpenSpec.upto modesTablesSpec)) modesTablesUptoCard

/-- THE SECOND FORM's CARD OF 'jettylaw08.ModesJoin'. -/
def modesJoinUptoCard : Claim7 := { stood := { row := modesJoinUptoRow, standIns := [], harness := (true, "29d1354011583654f6965e734faf778ac047429697c058d79143d63c98d918e4"), looks := false }, kinds := [], alts := [], laidByText := true, laidKinds := [.data], laidTests := true, laidLooks := .later }
def ModesJoinUptoCardSaid : Prop := Claim7.holds Tryd.pinned (.plain (OpenSpec.upto modesJoinSpec)) modesJoinUptoCard

/-- THE SECOND FORM's CARD OF 'jettylaw08.ModesOrder'. -/
def modesOrderUptoCard : Claim7 := { stood := { row := modesOrderUptoRow, standIns := [], harness := (true, "29d1354011583654f6965e734faf778ac047429697c058d79143d63c98d918e4"), looks := false }, kinds := [], alts := [], laidByText := true, laidKinds := [.data], laidTests := true, laidLooks := .later }
def ModesOrderUptoCardSaid : Prop := Claim7.holds Tryd.pinned (.plain (OpenSpec.upto modesOrderSpec)) modesOrderUptoCard

/-- THE SECOND FORM's CARD OF 'jettylaw08.ModesWeaker'. -/
def modesWeakerUptoCard : Claim7 := { stood := { row := modesWeakerUptoRow, standIns := [], harness := (true, "29d1354011583654f6965e734faf778ac047429697c058d79143d63c98d918e4"), looks := false }, kinds := [], alts := [], laidByText := true, laidKinds := [.data], laidTests := true, laidLooks := .later }
def ModesWeakerUptoCardSaid : Prop := Claim7.holds Tryd.pinned (.plain (OpenSpec.upto modesWeakerSpec)) modesWeakerUptoCard
end Rows
end Go.Proofs.YticncaomingnpaaDoor
