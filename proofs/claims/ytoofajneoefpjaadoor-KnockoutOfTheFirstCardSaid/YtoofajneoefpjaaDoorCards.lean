/-
  DERIVED. GIVEN WITH THE SEED: THE CARDS: each row of YtoofajneoefpjaaDoorRows.lean that lists a variable, with what it lists TIED to the program's text (the seventh form; the later family's looks); each row that meets fmt, with fmt's text TOLD by the authors' own Lean function (tested against real Go, not proved from fmt's source: count such statements apart). THE CARD IS WHAT COUNTS. Prove the row's statement (the work); the ties are given (YtoofajneoefpjaaDoorTie.lean); close each card by the builder's one call (the guide's Derived/Test/ToyasCard.lean, 'card_holds'). Laid BY PROGRAM, IN A SANDBOX (cutbox-door.mjs). By AI agents, Wed Nov 11 2026. No macro, syntax, notation, axiom, sorry.
-/
import Derived.Test.YtoofajneoefpjaaDoorRows
import GoSem.ClaimSeven
namespace Go.Proofs.YtoofajneoefpjaaDoor
namespace Rows

/-- THE TIED CARD OF 'compositorlaw10.KnockoutOfTheFirst'. -/
def knockoutOfTheFirstCard : Claim7 := { stood := { row := knockoutOfTheFirstRow, standIns := [], harness := (true, "445df16b7e16445da18caae22f18fc5cb11d31b7febb3ba0ad794fc0b5d38896"), looks := false }, kinds := [], alts := [], laidByText := true, laidKinds := [.data], laidTests := true, laidLooks := .later }
def KnockoutOfTheFirstCardSaid : Prop := Claim7.holds Tryd.pinned (.plain (OpenSpec.ofChange knockoutOfTheFirstSpec)) knockoutOfTheFirstCard

/-- THE TIED CARD OF 'compositorlaw10.KnockoutKeepsOrder'. -/
def knockoutKeepsOrderCard : Claim7 := { stood := { row := knockoutKeepsOrderRow, standIns := [], harness := (true, "445df16b7e16445da18caae22f18fc5cb11d31b7febb3ba0ad794fc0b5d38896"), looks := false }, kinds := [], alts := [], laidByText := true, laidKinds := [.data], laidTests := true, laidLooks := .later }
def KnockoutKeepsOrderCardSaid : Prop := Claim7.holds Tryd.pinned (.plain (OpenSpec.ofChange knockoutKeepsOrderSpec)) knockoutKeepsOrderCard

/-- THE SECOND FORM's CARD OF 'compositorlaw10.KnockoutOfTheFirst'. -/
def knockoutOfTheFirstUptoCard : Claim7 := { stood := { row := knockoutOfTheFirstUptoRow, standIns := [], harness := (true, "445df16b7e16445da18caae22f18fc5cb11d31b7febb3ba0ad794fc0b5d38896"), looks := false }, kinds := [], alts := [], laidByText := true, laidKinds := [.data], laidTests := true, laidLooks := .later }
def KnockoutOfTheFirstUptoCardSaid : Prop := Claim7.holds Tryd.pinned (.plain (OpenSpec.upto knockoutOfTheFirstSpec)) knockoutOfTheFirstUptoCard

/-- THE SECOND FORM's CARD OF 'compositorlaw10.KnockoutKeepsOrder'. -/
def knockoutKeepsOrderUptoCard : Claim7 := { stood := { row := knockoutKeepsOrderUptoRow, standIns := [], harness := (true, "445df16b7e16445da18caae22f18fc5cb11d31b7febb3ba0ad794fc0b5d38896"), looks := false }, kinds := [], alts := [], laidByText := true, laidKinds := [.data], laidTests := true, laidLooks := .later }
def KnockoutKeepsOrderUptoCardSaid : Prop := Claim7.holds Tryd.pinned (.plain (OpenSpec.upto knockoutKeepsOrderSpec)) knockoutKeepsOrderUptoCard
end Rows
end Go.Proofs.YtoofajneoefpjaaDoor
