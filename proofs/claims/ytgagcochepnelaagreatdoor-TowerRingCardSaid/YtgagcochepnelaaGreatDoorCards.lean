/-
  DERIVED. GIVEN WITH THE SEED: THE CARDS: each row of YtgagcochepnelaaGreatDoorRows.lean that lists a variable, with what it lists TIED to the program's text (the seventh form; the later family's looks); each row that meets fmt, with fmt's text TOLD by the authors' own Lean function (tested against real Go, not proved from fmt's source: count such statements apart). THE CARD IS WHAT COUNTS. Prove the row's statement (the work); the ties are given (YtgagcochepnelaaGreatDoorTie.lean); close each card by the builder's one call (the guide's Derived/Test/ToyasCard.lean, 'card_holds'). Laid BY PROGRAM, IN A SANDBOX (cutbox-door.mjs). By AI agents, Wed Nov 11 2026. No macro, syntax, notation, axiom, sorry.
-/
import Derived.Test.YtgagcochepnelaaGreatDoorRows
import GoSem.ClaimSeven
namespace Go.Proofs.YtgagcochepnelaaGreatDoor
namespace Rows

/-- THE TIED CARD OF 'setsquarelaw06.TowerFormed'. -/
def towerFormedCard : Claim7 := { stood := { row := towerFormedRow, standIns := [], harness := (true, "eee627d1d27eb4fb85551d1d26f0db40cd476d56e33ef7f647ecb9a676695998"), looks := false }, kinds := [], alts := [], laidByText := true, laidKinds := [.data], laidTests := true, laidLooks := .later }
def TowerFormedCardSaid : Prop := Claim7.holds Tryz.pinned (.plain (OpenSpec.ofChange towerFormedSpec)) towerFormedCard

/-- THE TIED CARD OF 'setsquarelaw06.TowerSingle'. -/
def towerSingleCard : Claim7 := { stood := { row := towerSingleRow, standIns := [], harness := (true, "eee627d1d27eb4fb85551d1d26f0db40cd476d56e33ef7f647ecb9a676695998"), looks := false }, kinds := [], alts := [], laidByText := true, laidKinds := [.data], laidTests := true, laidLooks := .later }
def TowerSingleCardSaid : Prop := Claim7.holds Tryz.pinned (.plain (OpenSpec.ofChange towerSingleSpec)) towerSingleCard

/-- THE TIED CARD OF 'setsquarelaw06.TowerRational'. -/
def towerRationalCard : Claim7 := { stood := { row := towerRationalRow, standIns := [], harness := (true, "eee627d1d27eb4fb85551d1d26f0db40cd476d56e33ef7f647ecb9a676695998"), looks := false }, kinds := [], alts := [], laidByText := true, laidKinds := [.data], laidTests := true, laidLooks := .later }
def TowerRationalCardSaid : Prop := Claim7.holds Tryz.pinned (.plain (OpenSpec.ofChange towerRationalSpec)) towerRationalCard

/-- THE TIED CARD OF 'setsquarelaw06.TowerRing'. -/
def towerRingCard : Claim7 := { stood := { row := towerRingRow, standIns := [], harness := (true, "eee627d1d27eb4fb85551d1d26f0db40cd476d56e33ef7f647ecb9a676695998"), looks := false }, kinds := [], alts := [], laidByText := true, laidKinds := [.data], laidTests := true, laidLooks := .later }
def TowerRingCardSaid : Prop := Claim7.holds Tryz.pinned (.plain (OpenSpec.ofChange towerRingSpec)) towerRingCard

/-- THE TIED CARD OF 'setsquarelaw06.TowerInverse'. -/
def towerInverseCard : Claim7 := { stood := { row := towerInverseRow, standIns := [], harness := (true, "eee627d1d27eb4fb85551d1d26f0db40cd476d56e33ef7f647ecb9a676695998"), looks := false }, kinds := [], alts := [], laidByText := true, laidKinds := [.data], laidTests := true, laidLooks := .later }
def TowerInverseCardSaid : Prop := Claim7.holds Tryz.pinned (.plain (OpenSpec.ofChange towerInverseSpec)) towerInverseCard

/-- THE TIED CARD OF 'setsquarelaw06.TowerRoots'. -/
def towerRootsCard : Claim7 := { stood := { row := towerRootsRow, standIns := [], harness := (true, "eee627d1d27eb4fb85551d1d26f0db40cd476d56e33ef7f647ecb9a676695998"), looks := false }, kinds := [], alts := [], laidByText := true, laidKinds := [.data], laidTests := true, laidLooks := .later }
def TowerRootsCardSaid : Prop := Claim7.holds Tryz.pinned (.plain (OpenSpec.ofChange towerRootsSpec)) towerRootsCard

/-- THE TIED CARD OF 'setsquarelaw06.TowerConjugate'. -/
def towerConjugateCard : Claim7 := { stood := { row := towerConjugateRow, standIns := [], harness := (true, "eee627d1d27eb4fb85551d1d26f0db40cd476d56e33ef7f647ecb9a676695998"), looks := false }, kinds := [], alts := [], laidByText := true, laidKinds := [.data], laidTests := true, laidLooks := .later }
def TowerConjugateCardSaid : Prop := Claim7.holds Tryz.pinned (.plain (OpenSpec.ofChange towerConjugateSpec)) towerConjugateCard

/-- THE TIED CARD OF 'setsquarelaw06.TowerNorm'. -/
def towerNormCard : Claim7 := { stood := { row := towerNormRow, standIns := [], harness := (true, "eee627d1d27eb4fb85551d1d26f0db40cd476d56e33ef7f647ecb9a676695998"), looks := false }, kinds := [], alts := [], laidByText := true, laidKinds := [.data], laidTests := true, laidLooks := .later }
def TowerNormCardSaid : Prop := Claim7.holds Tryz.pinned (.plain (OpenSpec.ofChange towerNormSpec)) towerNormCard

/-- THE SECOND FORM's CARD OF 'setsquarelaw06.TowerFormed'. -/
def towerFormedUptoCard : Claim7 := { stood := { row := towerFormedUptoRow, standIns := [], harness := (true, "eee627d1d27eb4fb85551d1d26f0db40cd476d56e33ef7f647ecb9a676695998"), looks := false }, kinds := [], alts := [], laidByText := true, laidKinds := [.data], laidTests := true, laidLooks := .later }
def TowerFormedUptoCardSaid : Prop := Claim7.holds Tryz.pinned (.plain (OpenSpec.upto towerFormedSpec)) towerFormedUptoCard

/-- THE SECOND FORM's CARD OF 'setsquarelaw06.TowerSingle'. -/
def towerSingleUptoCard : Claim7 := { stood := { row := towerSingleUptoRow, standIns := [], harness := (true, "eee627d1d27eb4fb85551d1d26f0db40cd476d56e33ef7f647ecb9a676695998"), looks := false }, kinds := [], alts := [], laidByText := true, laidKinds := [.data], laidTests := true, laidLooks := .later }
def TowerSingleUptoCardSaid : Prop := Claim7.holds Tryz.pinned (.plain (OpenSpec.upto towerSingleSpec)) towerSingleUptoCard

/-- THE SECOND FORM's CARD OF 'setsquarelaw06.TowerRational'. -/
def towerRationalUptoCard : Claim7 := { stood := { row := towerRationalUptoRow, standIns := [], harness := (true, "eee627d1d27eb4fb85551d1d26f0db40cd476d56e33ef7f647ecb9a676695998"), looks := false }, kinds := [], alts := [], laidByText := true, laidKinds := [.data], laidTests := true, laidLooks := .later }
def TowerRationalUptoCardSaid : Prop := Claim7.holds Tryz.pinned (.plain (OpenSpec.upto towerRationalSpec)) towerRationalUptoCard

/-- THE SECOND FORM's CARD OF 'setsquarelaw06.TowerRing'. -/
def towerRingUptoCard : Claim7 := { stood := { row := towerRingUptoRow, standIns := [], harness := (true, "eee627d1d27eb4fb85551d1d26f0db40cd476d56e33ef7f647ecb9a676695998"), looks := false }, kinds := [], alts := [], laidByText := true, laidKinds := [.data], laidTests := true, laidLooks := .later }
def TowerRingUptoCardSaid : Prop := Claim7.holds Tryz.pinned (.plain (OpenSpec.upto towerRingSpec)) towerRingUptoCard

/-- THE SECOND FORM's CARD OF 'setsquarelaw06.TowerInverse'. -/
def towerInverseUptoCard : Claim7 := { stood := { row := towerInverseUptoRow, standIns := [], harness := (true, "eee627d1d27eb4fb85551d1d26f0db40cd476d56e33ef7f647ecb9a676695998"), looks := false }, kinds := [], alts := [], laidByText := true, laidKinds := [.data], laidTests := true, laidLooks := .later }
def TowerInverseUptoCardSaid : Prop := Claim7.holds Tryz.pinned (.plain (OpenSpec.upto towerInverseSpec)) towerInverseUptoCard

/-- THE SECOND FORM's CARD OF 'setsquarelaw06.TowerRoots'. -/
def towerRootsUptoCard : Claim7 := { stood := { row := towerRootsUptoRow, standIns := [], harness := (true, "eee627d1d27eb4fb85551d1d26f0db40cd476d56e33ef7f647ecb9a676695998"), looks := false }, kinds := [], alts := [], laidByText := true, laidKinds := [.data], laidTests := true, laidLooks := .later }
def TowerRootsUptoCardSaid : Prop := Claim7.holds Tryz.pinned (.plain (OpenSpec.upto towerRootsSpec)) towerRootsUptoCard

/-- THE SECOND FORM's CARD OF 'setsquarelaw06.TowerConjugate'. -/
def towerConjugateUptoCard : Claim7 := { stood := { row := towerConjugateUptoRow, standIns := [], harness := (true, "eee627d1d27eb4fb85551d1d26f0db40cd476d56e33ef7f647ecb9a676695998"), looks := false }, kinds := [], alts := [], laidByText := true, laidKinds := [.data], laidTests := true, laidLooks := .later }
def TowerConjugateUptoCardSaid : Prop := Claim7.holds Tryz.pinned (.plain (OpenSpec.upto towerConjugateSpec)) towerConjugateUptoCard

/-- THE SECOND FORM's CARD OF 'setsquarelaw06.TowerNorm'. -/
def towerNormUptoCard : Claim7 := { stood := { row := towerNormUptoRow, standIns := [], harness := (true, "eee627d1d27eb4fb85551d1d26f0db40cd476d56e33ef7f647ecb9a676695998"), looks := false }, kinds := [], alts := [], laidByText := true, laidKinds := [.data], laidTests := true, laidLooks := .later }
def TowerNormUptoCardSaid : Prop := Claim7.holds Tryz.pinned (.plain (OpenSpec.upto towerNormSpec)) towerNormUptoCard
end Rows
end Go.Proofs.YtgagcochepnelaaGreatDoor
