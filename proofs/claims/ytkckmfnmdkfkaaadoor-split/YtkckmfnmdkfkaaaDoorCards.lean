/-
  DERIVED. GIVEN WITH THE SEED: THE CARDS: each row of YtkckmfnmdkfkaaaDoorRows.lean that lists a variable, with what it lists TIED to the program's text (the seventh form; the later family's looks); each row that meets fmt, with fmt's text TOLD by the authors' own Lean function (tested against real Go, not proved from fmt's source: count such statements apart). THE CARD IS WHAT COUNTS. Prove the row's statement (the work); the ties are given (YtkckmfnmdkfkaaaDoorTie.lean); close each card by the builder's one call (the guide's Derived/Test/ToyasCard.lean, 'card_holds'). Laid BY PROGRAM, IN A SANDBOX (cutbox-door.mjs). By AI agents, Wed Nov 11 2026. No macro, syntax, notation, axiom, sorry.
-/
import Derived.Test.YtkckmfnmdkfkaaaDoorRows
import GoSem.ClaimSeven
namespace Go.Proofs.YtkckmfnmdkfkaaaDoor
namespace Rows

/-- THE TIED CARD OF 'effectuslaw1.Tokens'. -/
def tokensCard : Claim7 := { stood := { row := tokensRow, standIns := [], harness := (true, "7c8e1acd1259c40cdaf8bf0ba6c6e493a786f9b2d8fee10e31b66dd8efce8bef"), looks := true }, kinds := [], alts := [], laidByText := true, laidKinds := [.data, .data, .data, .sentinel, .sentinel], laidTests := true, laidLooks := .later }
def TokensCardSaid : Prop := Claim7.holds Tryd.pinned (.plain (OpenSpec.ofChange tokensSpec)) tokensCard

/-- THE TIED CARD OF 'effectuslaw1.Split'. -/
def splitCard : Claim7 := { stood := { row := splitRow, standIns := [], harness := (true, "7c8e1acd1259c40cdaf8bf0ba6c6e493a786f9b2d8fee10e31b66dd8efce8bef"), looks := true }, kinds := [], alts := [], laidByText := true, laidKinds := [.data, .data, .data, .sentinel, .sentinel], laidTests := true, laidLooks := .later }
def SplitCardSaid : Prop := Claim7.holds Tryd.pinned (.plain (OpenSpec.ofChange splitSpec)) splitCard

/-- THE SECOND FORM's CARD OF 'effectuslaw1.Tokens'. -/
def tokensUptoCard : Claim7 := { stood := { row := tokensUptoRow, standIns := [], harness := (true, "7c8e1acd1259c40cdaf8bf0ba6c6e493a786f9b2d8fee10e31b66dd8efce8bef"), looks := true }, kinds := [], alts := [], laidByText := true, laidKinds := [.data, .data, .data, .sentinel, .sentinel], laidTests := true, laidLooks := .later }
def TokensUptoCardSaid : Prop := Claim7.holds Tryd.pinned (.plain (OpenSpec.upto tokensSpec)) tokensUptoCard

/-- THE SECOND FORM's CARD OF 'effectuslaw1.Split'. -/
def splitUptoCard : Claim7 := { stood := { row := splitUptoRow, standIns := [], harness := (true, "7c8e1acd1259c40cdaf8bf0ba6c6e493a786f9b2d8fee10e31b66dd8efce8bef"), looks := true }, kinds := [], alts := [], laidByText := true, laidKinds := [.data, .data, .data, .sentinel, .sentinel], laidTests := true, laidLooks := .later }
def SplitUptoCardSaid : Prop := Claim7.holds Tryd.pinned (.plain (OpenSpec.upto splitSpec)) splitUptoCard
end Rows
end Go.Proofs.YtkckmfnmdkfkaaaDoor
