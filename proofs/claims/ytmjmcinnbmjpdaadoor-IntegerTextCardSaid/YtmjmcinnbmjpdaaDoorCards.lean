/-
  DERIVED. GIVEN WITH THE SEED: THE CARDS: each row of YtmjmcinnbmjpdaaDoorRows.lean that lists a variable, with what it lists TIED to the program's text (the seventh form; the later family's looks); each row that meets fmt, with fmt's text TOLD by the authors' own Lean function (tested against real Go, not proved from fmt's source: count such statements apart). THE CARD IS WHAT COUNTS. Prove the row's statement (the work); the ties are given (YtmjmcinnbmjpdaaDoorTie.lean); close each card by the builder's one call (the guide's Derived/Test/ToyasCard.lean, 'card_holds'). Laid BY PROGRAM, IN A SANDBOX (cutbox-door.mjs). By AI agents, Wed Nov 11 2026. No macro, syntax, notation, axiom, sorry.
-/
import Derived.Test.YtmjmcinnbmjpdaaDoorRows
import GoSem.ClaimSeven
namespace Go.Proofs.YtmjmcinnbmjpdaaDoor
namespace Rows

/-- THE TIED CARD OF 'setsquarelaw01.IntegerGCD'. -/
def integerGCDCard : Claim7 := { stood := { row := integerGCDRow, standIns := [], harness := (true, "cf1a78bf7bbdb8dbdca5dfe5640c665f90991da4216c443a8ff4155b200d86aa"), looks := false }, kinds := [], alts := [], laidByText := true, laidKinds := [.data], laidTests := true, laidLooks := .later }
def IntegerGCDCardSaid : Prop := Claim7.holds Tryd.pinned (.plain (OpenSpec.ofChange integerGCDSpec)) integerGCDCard

/-- THE TIED CARD OF 'setsquarelaw01.IntegerText'. -/
def integerTextCard : Claim7 := { stood := { row := integerTextRow, standIns := [], harness := (true, "cf1a78bf7bbdb8dbdca5dfe5640c665f90991da4216c443a8ff4155b200d86aa"), looks := false }, kinds := [], alts := [], laidByText := true, laidKinds := [.data, .data, .data, .data, .pinned], laidTests := true, laidLooks := .later }
def IntegerTextCardSaid : Prop := Claim7.holds Tryd.pinned (.plain (OpenSpec.ofChange integerTextSpec)) integerTextCard

/-- THE SECOND FORM's CARD OF 'setsquarelaw01.IntegerGCD'. -/
def integerGCDUptoCard : Claim7 := { stood := { row := integerGCDUptoRow, standIns := [], harness := (true, "cf1a78bf7bbdb8dbdca5dfe5640c665f90991da4216c443a8ff4155b200d86aa"), looks := false }, kinds := [], alts := [], laidByText := true, laidKinds := [.data], laidTests := true, laidLooks := .later }
def IntegerGCDUptoCardSaid : Prop := Claim7.holds Tryd.pinned (.plain (OpenSpec.upto integerGCDSpec)) integerGCDUptoCard

/-- THE SECOND FORM's CARD OF 'setsquarelaw01.IntegerText'. -/
def integerTextUptoCard : Claim7 := { stood := { row := integerTextUptoRow, standIns := [], harness := (true, "cf1a78bf7bbdb8dbdca5dfe5640c665f90991da4216c443a8ff4155b200d86aa"), looks := false }, kinds := [], alts := [], laidByText := true, laidKinds := [.data, .data, .data, .data, .pinned], laidTests := true, laidLooks := .later }
def IntegerTextUptoCardSaid : Prop := Claim7.holds Tryd.pinned (.plain (OpenSpec.upto integerTextSpec)) integerTextUptoCard
end Rows
end Go.Proofs.YtmjmcinnbmjpdaaDoor
