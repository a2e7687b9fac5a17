/-
  DERIVED. GIVEN WITH THE SEED: THE CARDS: each row of YtpeddoaknfjbbaaGreatDoorRows.lean that lists a variable, with what it lists TIED to the program's text (the seventh form; the later family's looks); each row that meets fmt, with fmt's text TOLD by the authors' own Lean function (tested against real Go, not proved from fmt's source: count such statements apart). THE CARD IS WHAT COUNTS. Prove the row's statement (the work); the ties are given (YtpeddoaknfjbbaaGreatDoorTie.lean); close each card by the builder's one call (the guide's Derived/Test/ToyasCard.lean, 'card_holds'). Laid BY PROGRAM, IN A SANDBOX (cutbox-door.mjs). By AI agents, Wed Nov 11 2026. No macro, syntax, notation, axiom, sorry.
-/
import Derived.Test.YtpeddoaknfjbbaaGreatDoorRows
import GoSem.ClaimSeven
namespace Go.Proofs.YtpeddoaknfjbbaaGreatDoor
namespace Rows

/-- THE TIED CARD OF 'setsquarelaw04.PolynomialAdd'. -/
def polynomialAddCard : Claim7 := { stood := { row := polynomialAddRow, standIns := [], harness := (true, "99e8cc5bdf6457774acea24aeecbd1dcb0eef638bc8710dbcd2df0f5d0fa89b8"), looks := false }, kinds := [], alts := [], laidByText := true, laidKinds := [.data], laidTests := true, laidLooks := .later }
def PolynomialAddCardSaid : Prop := Claim7.holds Tryz.pinned (.plain (OpenSpec.ofChange polynomialAddSpec)) polynomialAddCard

/-- THE TIED CARD OF 'setsquarelaw04.PolynomialMul'. -/
def polynomialMulCard : Claim7 := { stood := { row := polynomialMulRow, standIns := [], harness := (true, "99e8cc5bdf6457774acea24aeecbd1dcb0eef638bc8710dbcd2df0f5d0fa89b8"), looks := false }, kinds := [], alts := [], laidByText := true, laidKinds := [.data], laidTests := true, laidLooks := .later }
def PolynomialMulCardSaid : Prop := Claim7.holds Tryz.pinned (.plain (OpenSpec.ofChange polynomialMulSpec)) polynomialMulCard

/-- THE TIED CARD OF 'setsquarelaw04.PolynomialEval'. -/
def polynomialEvalCard : Claim7 := { stood := { row := polynomialEvalRow, standIns := [], harness := (true, "99e8cc5bdf6457774acea24aeecbd1dcb0eef638bc8710dbcd2df0f5d0fa89b8"), looks := false }, kinds := [], alts := [], laidByText := true, laidKinds := [.data], laidTests := true, laidLooks := .later }
def PolynomialEvalCardSaid : Prop := Claim7.holds Tryz.pinned (.plain (OpenSpec.ofChange polynomialEvalSpec)) polynomialEvalCard

/-- THE TIED CARD OF 'setsquarelaw04.PolynomialDivMod'. -/
def polynomialDivModCard : Claim7 := { stood := { row := polynomialDivModRow, standIns := [], harness := (true, "99e8cc5bdf6457774acea24aeecbd1dcb0eef638bc8710dbcd2df0f5d0fa89b8"), looks := false }, kinds := [], alts := [], laidByText := true, laidKinds := [.data], laidTests := true, laidLooks := .later }
def PolynomialDivModCardSaid : Prop := Claim7.holds Tryz.pinned (.plain (OpenSpec.ofChange polynomialDivModSpec)) polynomialDivModCard

/-- THE TIED CARD OF 'setsquarelaw04.PolynomialDerivative'. -/
def polynomialDerivativeCard : Claim7 := { stood := { row := polynomialDerivativeRow, standIns := [], harness := (true, "99e8cc5bdf6457774acea24aeecbd1dcb0eef638bc8710dbcd2df0f5d0fa89b8"), looks := false }, kinds := [], alts := [], laidByText := true, laidKinds := [.data], laidTests := true, laidLooks := .later }
def PolynomialDerivativeCardSaid : Prop := Claim7.holds Tryz.pinned (.plain (OpenSpec.ofChange polynomialDerivativeSpec)) polynomialDerivativeCard

/-- THE TIED CARD OF 'setsquarelaw04.PolynomialPrimitive'. -/
def polynomialPrimitiveCard : Claim7 := { stood := { row := polynomialPrimitiveRow, standIns := [], harness := (true, "99e8cc5bdf6457774acea24aeecbd1dcb0eef638bc8710dbcd2df0f5d0fa89b8"), looks := false }, kinds := [], alts := [], laidByText := true, laidKinds := [.data], laidTests := true, laidLooks := .later }
def PolynomialPrimitiveCardSaid : Prop := Claim7.holds Tryz.pinned (.plain (OpenSpec.ofChange polynomialPrimitiveSpec)) polynomialPrimitiveCard

/-- THE SECOND FORM's CARD OF 'setsquarelaw04.PolynomialAdd'. -/
def polynomialAddUptoCard : Claim7 := { stood := { row := polynomialAddUptoRow, standIns := [], harness := (true, "99e8cc5bdf6457774acea24aeecbd1dcb0eef638bc8710dbcd2df0f5d0fa89b8"), looks := false }, kinds := [], alts := [], laidByText := true, laidKinds := [.data], laidTests := true, laidLooks := .later }
def PolynomialAddUptoCardSaid : Prop := Claim7.holds Tryz.pinned (.plain (OpenSpec.upto polynomialAddSpec)) polynomialAddUptoCard

/-- THE SECOND FORM's CARD OF 'setsquarelaw04.PolynomialMul'. -/
def polynomialMulUptoCard : Claim7 := { stood := { row := polynomialMulUptoRow, standIns := [], harness := (true, "99e8cc5bdf6457774acea24aeecbd1dcb0eef638bc8710dbcd2df0f5d0fa89b8"), looks := false }, kinds := [], alts := [], laidByText := true, laidKinds := [.data], laidTests := true, laidLooks := .later }
def PolynomialMulUptoCardSaid : Prop := Claim7.holds Tryz.pinned (.plain (OpenSpec.upto polynomialMulSpec)) polynomialMulUptoCard

/-- THE SECOND FORM's CARD OF 'setsquarelaw04.PolynomialEval'. -/
def polynomialEvalUptoCard : Claim7 := { stood := { row := polynomialEvalUptoRow, standIns := [], harness := (true, "99e8cc5bdf6457774acea24aeecbd1dcb0eef638bc8710dbcd2df0f5d0fa89b8"), looks := false }, kinds := [], alts := [], laidByText := true, laidKinds := [.data], laidTests := true, laidLooks := .later }
def PolynomialEvalUptoCardSaid : Prop := Claim7.holds Tryz.pinned (.plain (OpenSpec.upto polynomialEvalSpec)) polynomialEvalUptoCard

/-- THE SECOND FORM's CARD OF 'setsquarelaw04.PolynomialDivMod'. -/
def polynomialDivModUptoCard : Claim7 := { stood := { row := polynomialDivModUptoRow, standIns := [], harness := (true, "99e8cc5bdf6457774acea24aeecbd1dcb0eef638bc8710dbcd2df0f5d0fa89b8"), looks := false }, kinds := [], alts := [], laidByText := true, laidKinds := [.data], laidTests := true, laidLooks := .later }
def PolynomialDivModUptoCardSaid : Prop := Claim7.holds Tryz.pinned (.plain (OpenSpec.upto polynomialDivModSpec)) polynomialDivModUptoCard

/-- THE SECOND FORM's CARD OF 'setsquarelaw04.PolynomialDerivative'. -/
def polynomialDerivativeUptoCard : Claim7 := { stood := { row := polynomialDerivativeUptoRow, standIns := [], harness := (true, "99e8cc5bdf6457774acea24aeecbd1dcb0eef638bc8710dbcd2df0f5d0fa89b8"), looks := false }, kinds := [], alts := [], laidByText := true, laidKinds := [.data], laidTests := true, laidLooks := .later }
def PolynomialDerivativeUptoCardSaid : Prop := Claim7.holds Tryz.pinned (.plain (OpenSpec.upto polynomialDerivativeSpec)) polynomialDerivativeUptoCard

/-- THE SECOND FORM's CARD OF 'setsquarelaw04.PolynomialPrimitive'. -/
def polynomialPrimitiveUptoCard : Claim7 := { stood := { row := polynomialPrimitiveUptoRow, standIns := [], harness := (true, "99e8cc5bdf6457774acea24aeecbd1dcb0eef638bc8710dbcd2df0f5d0fa89b8"), looks := false }, kinds := [], alts := [], laidByText := true, laidKinds := [.data], laidTests := true, laidLooks := .later }
def PolynomialPrimitiveUptoCardSaid : Prop := Claim7.holds Tryz.pinned (.plain (OpenSpec.upto polynomialPrimitiveSpec)) polynomialPrimitiveUptoCard
end Rows
end Go.Proofs.YtpeddoaknfjbbaaGreatDoor
