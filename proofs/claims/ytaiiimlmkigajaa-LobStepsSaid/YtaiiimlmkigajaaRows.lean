/-
  No cell of these rows narrows 'for every input' (looked for: loops, veiled, ifaces, maps, wideKeys, modest, calm, conditions, laid).
  DERIVED. THE GIVEN ROWS OF THIS SEAT. 4 by the template 'for every input the law returns true; each argument reads behind the call as it read before'; 0 by the template 'total and deterministic' (their statements: YtaiiimlmkigajaaTotals.lean).
  GIVEN WITH THE SEED: the statements are not yours to turn. If you find one false, say at which input.
  Laid BY PROGRAM, IN A SANDBOX (cutbox-rows.mjs): the forced cells as the released guide's own fill.sh prints them over the translation 6a9333201165dccb… (all of the seat's roots in one cut). By AI agents, Wed Nov 11 2026. No macro, syntax, notation, axiom, sorry.
-/
import Derived.Test.YtaiiimlmkigajaaChecked
import GoSem.Claim
import GoSem.ClaimJoined
import GoSem.ClaimMapViews
import Derived.JoinedTies
import Derived.KernelRfl
namespace Go.Proofs.Ytaiiimlmkigajaa
/- THE CELL 'sum', in the pinned program and in every row, IS THE sha256 OF THE DUMP (.gsa) THAT YtaiiimlmkigajaaProg.lean LOADS. Nothing in Lean hashes anything: it is a label: what it is worth is what the hold of that sum in a sandbox is worth. -/
noncomputable def Try.pinned : Pinned := { name := "ytaiiimlmkigajaa", sum := "6a9333201165dccbe2a219b5c4e4b82b2f0f7601695960fd6ab1cd75e43879ab", checked := Try.checked }
namespace Rows
def none {H : Type} : Left H := { results := [], args := [] }

/-- 'jettylaw17.LobKeys': WHATEVER THE INPUT: true; the input reads as it did. -/
def lobKeysSpec : ChangeSpec := { name := "lobKeys", fn := fun _ => fun
  | [d] => { results := [.lit (.bool true)], args := [d] }
  | _ => none }
def lobKeysRow : OpenClaim := { program := "ytaiiimlmkigajaa", sum := "6a9333201165dccbe2a219b5c4e4b82b2f0f7601695960fd6ab1cd75e43879ab", func := "jetty/jettylaw17.LobKeys", spec := "lobKeys", inPlace := ["internal/abi.NoEscape", "internal/bytealg.MakeNoZero"], unfollowed := true, recurses := true, apart := false }
def LobKeysSaid : Prop := lobKeysRow.holds Try.pinned (OpenSpec.ofChange lobKeysSpec)

/-- ITS FALSE NEIGHBOUR: 'it returns false'. Refute it at one input. -/
def lobKeysWrong : ChangeSpec := { name := "lobKeys", fn := fun _ => fun
  | [d] => { results := [.lit (.bool false)], args := [d] }
  | _ => none }
def LobKeysWrongFalsely : Prop := lobKeysRow.holds Try.pinned (OpenSpec.ofChange lobKeysWrong)

/-- 'jettylaw17.LobPieces': WHATEVER THE INPUT: true; the input reads as it did. -/
def lobPiecesSpec : ChangeSpec := { name := "lobPieces", fn := fun _ => fun
  | [d1, d2] => { results := [.lit (.bool true)], args := [d1, d2] }
  | _ => none }
def lobPiecesRow : OpenClaim := { program := "ytaiiimlmkigajaa", sum := "6a9333201165dccbe2a219b5c4e4b82b2f0f7601695960fd6ab1cd75e43879ab", func := "jetty/jettylaw17.LobPieces", spec := "lobPieces", inPlace := ["internal/abi.NoEscape", "internal/bytealg.MakeNoZero"], unfollowed := true, recurses := true, apart := false }
def LobPiecesSaid : Prop := lobPiecesRow.holds Try.pinned (OpenSpec.ofChange lobPiecesSpec)

/-- ITS FALSE NEIGHBOUR: 'it returns false'. Refute it at one input. -/
def lobPiecesWrong : ChangeSpec := { name := "lobPieces", fn := fun _ => fun
  | [d1, d2] => { results := [.lit (.bool false)], args := [d1, d2] }
  | _ => none }
def LobPiecesWrongFalsely : Prop := lobPiecesRow.holds Try.pinned (OpenSpec.ofChange lobPiecesWrong)

/-- 'jettylaw17.LobApart': WHATEVER THE INPUT: true; the input reads as it did. -/
def lobApartSpec : ChangeSpec := { name := "lobApart", fn := fun _ => fun
  | [d1, d2] => { results := [.lit (.bool true)], args := [d1, d2] }
  | _ => none }
def lobApartRow : OpenClaim := { program := "ytaiiimlmkigajaa", sum := "6a9333201165dccbe2a219b5c4e4b82b2f0f7601695960fd6ab1cd75e43879ab", func := "jetty/jettylaw17.LobApart", spec := "lobApart", inPlace := ["internal/abi.NoEscape", "internal/bytealg.MakeNoZero"], unfollowed := true, recurses := true, apart := false }
def LobApartSaid : Prop := lobApartRow.holds Try.pinned (OpenSpec.ofChange lobApartSpec)

/-- ITS FALSE NEIGHBOUR: 'it returns false'. Refute it at one input. -/
def lobApartWrong : ChangeSpec := { name := "lobApart", fn := fun _ => fun
  | [d1, d2] => { results := [.lit (.bool false)], args := [d1, d2] }
  | _ => none }
def LobApartWrongFalsely : Prop := lobApartRow.holds Try.pinned (OpenSpec.ofChange lobApartWrong)

/-- 'jettylaw17.LobSteps': WHATEVER THE INPUT: true; the input reads as it did. -/
def lobStepsSpec : ChangeSpec := { name := "lobSteps", fn := fun _ => fun
  | [d1, d2] => { results := [.lit (.bool true)], args := [d1, d2] }
  | _ => none }
def lobStepsRow : OpenClaim := { program := "ytaiiimlmkigajaa", sum := "6a9333201165dccbe2a219b5c4e4b82b2f0f7601695960fd6ab1cd75e43879ab", func := "jetty/jettylaw17.LobSteps", spec := "lobSteps", inPlace := ["internal/abi.NoEscape", "internal/bytealg.MakeNoZero"], unfollowed := true, recurses := true, apart := false }
def LobStepsSaid : Prop := lobStepsRow.holds Try.pinned (OpenSpec.ofChange lobStepsSpec)

/-- ITS FALSE NEIGHBOUR: 'it returns false'. Refute it at one input. -/
def lobStepsWrong : ChangeSpec := { name := "lobSteps", fn := fun _ => fun
  | [d1, d2] => { results := [.lit (.bool false)], args := [d1, d2] }
  | _ => none }
def LobStepsWrongFalsely : Prop := lobStepsRow.holds Try.pinned (OpenSpec.ofChange lobStepsWrong)

/- THE SECOND FORM. 'bulk': how many values and letters a reading holds, each counted each time it is reached (what is shared counts as often as it is met; a slice's spare places count too). A statement '..UptoSaid' is the law's where the arguments, and the package variables that the reading takes, are together of bulk at most 1048576: NARROWER than '..Said'. Prove '..Said' where nothing that the law and all that it calls make is longer than what came in: it says more and counts as full. Else prove '..UptoSaid'. A law counts once. -/
mutual
def uptoBulk {H : Type} : DataW H → Nat
  | .lit (.string bytes) => bytes.length + 1
  | .lit _ => 1
  | .nil => 1
  | .ptr d => uptoBulk d + 1
  | .slice elems spare => uptoBulkAll elems + uptoBulkAll spare + 1
  | .agg parts => uptoBulkAll parts + 1
  | .iface _ d => uptoBulk d + 1
  | .map entries => uptoBulkEntries entries + 1
  | .held _ => 1
def uptoBulkAll {H : Type} : List (DataW H) → Nat
  | [] => 0
  | d :: r => uptoBulk d + uptoBulkAll r
def uptoBulkEntries {H : Type} : List (Lit × DataW H) → Nat
  | [] => 0
  | x :: r => uptoBulkEntry x + uptoBulkEntries r
def uptoBulkEntry {H : Type} : Lit × DataW H → Nat
  | (.string bytes, d) => bytes.length + uptoBulk d + 1
  | (_, d) => uptoBulk d + 1
 end
def uptoSmall : (H : Type) → List (DataW H) → Bool := fun _ ds => decide (uptoBulkAll ds ≤ 1048576)
def OpenSpec.upto (s : _root_.Go.ChangeSpec) : _root_.Go.OpenSpec := { _root_.Go.OpenSpec.ofChange s with cond := some uptoSmall }

/-- 'jettylaw17.LobKeys', WHERE WHAT IT READS IS OF BULK AT MOST 1048576: true; the input reads as it did. -/
def lobKeysUptoRow : OpenClaim := { program := "ytaiiimlmkigajaa", sum := "6a9333201165dccbe2a219b5c4e4b82b2f0f7601695960fd6ab1cd75e43879ab", func := "jetty/jettylaw17.LobKeys", spec := "lobKeys", inPlace := ["internal/abi.NoEscape", "internal/bytealg.MakeNoZero"], unfollowed := true, recurses := true, apart := false, narrowed := true }
def LobKeysUptoSaid : Prop := lobKeysUptoRow.holds Try.pinned (OpenSpec.upto lobKeysSpec)

/-- 'jettylaw17.LobPieces', WHERE WHAT IT READS IS OF BULK AT MOST 1048576: true; the input reads as it did. -/
def lobPiecesUptoRow : OpenClaim := { program := "ytaiiimlmkigajaa", sum := "6a9333201165dccbe2a219b5c4e4b82b2f0f7601695960fd6ab1cd75e43879ab", func := "jetty/jettylaw17.LobPieces", spec := "lobPieces", inPlace := ["internal/abi.NoEscape", "internal/bytealg.MakeNoZero"], unfollowed := true, recurses := true, apart := false, narrowed := true }
def LobPiecesUptoSaid : Prop := lobPiecesUptoRow.holds Try.pinned (OpenSpec.upto lobPiecesSpec)

/-- 'jettylaw17.LobApart', WHERE WHAT IT READS IS OF BULK AT MOST 1048576: true; the input reads as it did. -/
def lobApartUptoRow : OpenClaim := { program := "ytaiiimlmkigajaa", sum := "6a9333201165dccbe2a219b5c4e4b82b2f0f7601695960fd6ab1cd75e43879ab", func := "jetty/jettylaw17.LobApart", spec := "lobApart", inPlace := ["internal/abi.NoEscape", "internal/bytealg.MakeNoZero"], unfollowed := true, recurses := true, apart := false, narrowed := true }
def LobApartUptoSaid : Prop := lobApartUptoRow.holds Try.pinned (OpenSpec.upto lobApartSpec)

/-- 'jettylaw17.LobSteps', WHERE WHAT IT READS IS OF BULK AT MOST 1048576: true; the input reads as it did. -/
def lobStepsUptoRow : OpenClaim := { program := "ytaiiimlmkigajaa", sum := "6a9333201165dccbe2a219b5c4e4b82b2f0f7601695960fd6ab1cd75e43879ab", func := "jetty/jettylaw17.LobSteps", spec := "lobSteps", inPlace := ["internal/abi.NoEscape", "internal/bytealg.MakeNoZero"], unfollowed := true, recurses := true, apart := false, narrowed := true }
def LobStepsUptoSaid : Prop := lobStepsUptoRow.holds Try.pinned (OpenSpec.upto lobStepsSpec)

end Rows
end Go.Proofs.Ytaiiimlmkigajaa
