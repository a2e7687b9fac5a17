/-
  NARROWER THAN 'FOR EVERY INPUT', by the rows' own cells (each row's printed sentence says how): TowerFormed: laid · TowerSingle: laid · TowerRational: laid · TowerRing: laid · TowerInverse: laid · TowerRoots: laid · TowerConjugate: laid · TowerNorm: laid.
  DERIVED. THE GIVEN ROWS OF THIS SEAT. 8 by the template 'for every input the law returns true; each argument reads behind the call as it read before'; 0 by the template 'total and deterministic' (their statements: YtgagcochepnelaaGreatDoorTotals.lean).
  GIVEN WITH THE SEED: the statements are not yours to turn. If you find one false, say at which input.
  Laid BY PROGRAM, IN A SANDBOX (cutbox-rows.mjs): the forced cells as the released guide's own fill.sh prints them over the translation 992ac1c662dd8aa0… (all of the seat's roots in one cut). By AI agents, Wed Nov 11 2026. No macro, syntax, notation, axiom, sorry.
-/
import Derived.Test.YtgagcochepnelaaGreatDoorChecked
import GoSem.Claim
import GoSem.ClaimJoined
import GoSem.ClaimMapViews
import Derived.JoinedTies
import Derived.KernelRfl
namespace Go.Proofs.YtgagcochepnelaaGreatDoor
/- THE CELL 'sum', in the pinned program and in every row, IS THE sha256 OF THE DUMP (.gsa) THAT YtgagcochepnelaaGreatDoorProg.lean LOADS. Nothing in Lean hashes anything: it is a label: what it is worth is what the hold of that sum in a sandbox is worth. -/
noncomputable def Tryz.pinned : Pinned := { name := "ytgagcochepnelaagreatdoor", sum := "992ac1c662dd8aa01045aa1f0572fa5009368a7bb319f131e88f4f20653e80b6", checked := Tryz.checked }
namespace Rows
def none {H : Type} : Left H := { results := [], args := [] }

/- WHAT THE LISTED PACKAGE-LEVEL VARIABLES READ AS WHEN THE CALL BEGINS. Each datum BY PROGRAM (the guide's laid-datum.mjs) off the statement by which the dump's own 'gosem.cut.vars' lays the variable. In a bare row this is a premise. The card (YtgagcochepnelaaGreatDoorCards.lean) ties it to the program's text. -/
def laid_math_bits_deBruijn64tab {H : Type} : DataW H := .agg [.lit (.int .u8 0), .lit (.int .u8 1), .lit (.int .u8 56), .lit (.int .u8 2), .lit (.int .u8 57), .lit (.int .u8 49), .lit (.int .u8 28), .lit (.int .u8 3), .lit (.int .u8 61), .lit (.int .u8 58), .lit (.int .u8 42), .lit (.int .u8 50), .lit (.int .u8 38), .lit (.int .u8 29), .lit (.int .u8 17), .lit (.int .u8 4), .lit (.int .u8 62), .lit (.int .u8 47), .lit (.int .u8 59), .lit (.int .u8 36), .lit (.int .u8 45), .lit (.int .u8 43), .lit (.int .u8 51), .lit (.int .u8 22), .lit (.int .u8 53), .lit (.int .u8 39), .lit (.int .u8 33), .lit (.int .u8 30), .lit (.int .u8 24), .lit (.int .u8 18), .lit (.int .u8 12), .lit (.int .u8 5), .lit (.int .u8 63), .lit (.int .u8 55), .lit (.int .u8 48), .lit (.int .u8 27), .lit (.int .u8 60), .lit (.int .u8 41), .lit (.int .u8 37), .lit (.int .u8 16), .lit (.int .u8 46), .lit (.int .u8 35), .lit (.int .u8 44), .lit (.int .u8 21), .lit (.int .u8 52), .lit (.int .u8 32), .lit (.int .u8 23), .lit (.int .u8 11), .lit (.int .u8 54), .lit (.int .u8 26), .lit (.int .u8 40), .lit (.int .u8 15), .lit (.int .u8 34), .lit (.int .u8 20), .lit (.int .u8 31), .lit (.int .u8 10), .lit (.int .u8 25), .lit (.int .u8 14), .lit (.int .u8 19), .lit (.int .u8 9), .lit (.int .u8 13), .lit (.int .u8 8), .lit (.int .u8 7), .lit (.int .u8 6)]

/-- 'setsquarelaw06.TowerFormed': WHATEVER THE INPUT: true; the input reads as it did. -/
def towerFormedSpec : ChangeSpec := { name := "towerFormed", fn := fun _ => fun
  | [d1, d2] => { results := [.lit (.bool true)], args := [d1, d2] }
  | _ => none }
def towerFormedRow : OpenClaim := { program := "ytgagcochepnelaagreatdoor", sum := "992ac1c662dd8aa01045aa1f0572fa5009368a7bb319f131e88f4f20653e80b6", func := "setsquare/setsquarelaw06.TowerFormed", spec := "towerFormed", unfollowed := true, recurses := true, named := ["math/bits.deBruijn64tab"], apart := false, laid := [("math/bits.deBruijn64tab", laid_math_bits_deBruijn64tab)] }
def TowerFormedSaid : Prop := towerFormedRow.holds Tryz.pinned (OpenSpec.ofChange towerFormedSpec)

/-- ITS FALSE NEIGHBOUR: 'it returns false'. Refute it at one input. -/
def towerFormedWrong : ChangeSpec := { name := "towerFormed", fn := fun _ => fun
  | [d1, d2] => { results := [.lit (.bool false)], args := [d1, d2] }
  | _ => none }
def TowerFormedWrongFalsely : Prop := towerFormedRow.holds Tryz.pinned (OpenSpec.ofChange towerFormedWrong)

/-- 'setsquarelaw06.TowerSingle': WHATEVER THE INPUT: true; the input reads as it did. -/
def towerSingleSpec : ChangeSpec := { name := "towerSingle", fn := fun _ => fun
  | [d1, d2] => { results := [.lit (.bool true)], args := [d1, d2] }
  | _ => none }
def towerSingleRow : OpenClaim := { program := "ytgagcochepnelaagreatdoor", sum := "992ac1c662dd8aa01045aa1f0572fa5009368a7bb319f131e88f4f20653e80b6", func := "setsquare/setsquarelaw06.TowerSingle", spec := "towerSingle", unfollowed := true, recurses := true, named := ["math/bits.deBruijn64tab"], apart := false, laid := [("math/bits.deBruijn64tab", laid_math_bits_deBruijn64tab)] }
def TowerSingleSaid : Prop := towerSingleRow.holds Tryz.pinned (OpenSpec.ofChange towerSingleSpec)

/-- ITS FALSE NEIGHBOUR: 'it returns false'. Refute it at one input. -/
def towerSingleWrong : ChangeSpec := { name := "towerSingle", fn := fun _ => fun
  | [d1, d2] => { results := [.lit (.bool false)], args := [d1, d2] }
  | _ => none }
def TowerSingleWrongFalsely : Prop := towerSingleRow.holds Tryz.pinned (OpenSpec.ofChange towerSingleWrong)

/-- 'setsquarelaw06.TowerRational': WHATEVER THE INPUT: true; the input reads as it did. -/
def towerRationalSpec : ChangeSpec := { name := "towerRational", fn := fun _ => fun
  | [d] => { results := [.lit (.bool true)], args := [d] }
  | _ => none }
def towerRationalRow : OpenClaim := { program := "ytgagcochepnelaagreatdoor", sum := "992ac1c662dd8aa01045aa1f0572fa5009368a7bb319f131e88f4f20653e80b6", func := "setsquare/setsquarelaw06.TowerRational", spec := "towerRational", unfollowed := true, recurses := true, named := ["math/bits.deBruijn64tab"], apart := false, laid := [("math/bits.deBruijn64tab", laid_math_bits_deBruijn64tab)] }
def TowerRationalSaid : Prop := towerRationalRow.holds Tryz.pinned (OpenSpec.ofChange towerRationalSpec)

/-- ITS FALSE NEIGHBOUR: 'it returns false'. Refute it at one input. -/
def towerRationalWrong : ChangeSpec := { name := "towerRational", fn := fun _ => fun
  | [d] => { results := [.lit (.bool false)], args := [d] }
  | _ => none }
def TowerRationalWrongFalsely : Prop := towerRationalRow.holds Tryz.pinned (OpenSpec.ofChange towerRationalWrong)

/-- 'setsquarelaw06.TowerRing': WHATEVER THE INPUT: true; the input reads as it did. -/
def towerRingSpec : ChangeSpec := { name := "towerRing", fn := fun _ => fun
  | [d] => { results := [.lit (.bool true)], args := [d] }
  | _ => none }
def towerRingRow : OpenClaim := { program := "ytgagcochepnelaagreatdoor", sum := "992ac1c662dd8aa01045aa1f0572fa5009368a7bb319f131e88f4f20653e80b6", func := "setsquare/setsquarelaw06.TowerRing", spec := "towerRing", unfollowed := true, recurses := true, named := ["math/bits.deBruijn64tab"], apart := false, laid := [("math/bits.deBruijn64tab", laid_math_bits_deBruijn64tab)] }
def TowerRingSaid : Prop := towerRingRow.holds Tryz.pinned (OpenSpec.ofChange towerRingSpec)

/-- ITS FALSE NEIGHBOUR: 'it returns false'. Refute it at one input. -/
def towerRingWrong : ChangeSpec := { name := "towerRing", fn := fun _ => fun
  | [d] => { results := [.lit (.bool false)], args := [d] }
  | _ => none }
def TowerRingWrongFalsely : Prop := towerRingRow.holds Tryz.pinned (OpenSpec.ofChange towerRingWrong)

/-- 'setsquarelaw06.TowerInverse': WHATEVER THE INPUT: true; the input reads as it did. -/
def towerInverseSpec : ChangeSpec := { name := "towerInverse", fn := fun _ => fun
  | [d] => { results := [.lit (.bool true)], args := [d] }
  | _ => none }
def towerInverseRow : OpenClaim := { program := "ytgagcochepnelaagreatdoor", sum := "992ac1c662dd8aa01045aa1f0572fa5009368a7bb319f131e88f4f20653e80b6", func := "setsquare/setsquarelaw06.TowerInverse", spec := "towerInverse", unfollowed := true, recurses := true, named := ["math/bits.deBruijn64tab"], apart := false, laid := [("math/bits.deBruijn64tab", laid_math_bits_deBruijn64tab)] }
def TowerInverseSaid : Prop := towerInverseRow.holds Tryz.pinned (OpenSpec.ofChange towerInverseSpec)

/-- ITS FALSE NEIGHBOUR: 'it returns false'. Refute it at one input. -/
def towerInverseWrong : ChangeSpec := { name := "towerInverse", fn := fun _ => fun
  | [d] => { results := [.lit (.bool false)], args := [d] }
  | _ => none }
def TowerInverseWrongFalsely : Prop := towerInverseRow.holds Tryz.pinned (OpenSpec.ofChange towerInverseWrong)

/-- 'setsquarelaw06.TowerRoots': WHATEVER THE INPUT: true; the input reads as it did. -/
def towerRootsSpec : ChangeSpec := { name := "towerRoots", fn := fun _ => fun
  | [d] => { results := [.lit (.bool true)], args := [d] }
  | _ => none }
def towerRootsRow : OpenClaim := { program := "ytgagcochepnelaagreatdoor", sum := "992ac1c662dd8aa01045aa1f0572fa5009368a7bb319f131e88f4f20653e80b6", func := "setsquare/setsquarelaw06.TowerRoots", spec := "towerRoots", unfollowed := true, recurses := true, named := ["math/bits.deBruijn64tab"], apart := false, laid := [("math/bits.deBruijn64tab", laid_math_bits_deBruijn64tab)] }
def TowerRootsSaid : Prop := towerRootsRow.holds Tryz.pinned (OpenSpec.ofChange towerRootsSpec)

/-- ITS FALSE NEIGHBOUR: 'it returns false'. Refute it at one input. -/
def towerRootsWrong : ChangeSpec := { name := "towerRoots", fn := fun _ => fun
  | [d] => { results := [.lit (.bool false)], args := [d] }
  | _ => none }
def TowerRootsWrongFalsely : Prop := towerRootsRow.holds Tryz.pinned (OpenSpec.ofChange towerRootsWrong)

/-- 'setsquarelaw06.TowerConjugate': WHATEVER THE INPUT: true; the input reads as it did. -/
def towerConjugateSpec : ChangeSpec := { name := "towerConjugate", fn := fun _ => fun
  | [d1, d2] => { results := [.lit (.bool true)], args := [d1, d2] }
  | _ => none }
def towerConjugateRow : OpenClaim := { program := "ytgagcochepnelaagreatdoor", sum := "992ac1c662dd8aa01045aa1f0572fa5009368a7bb319f131e88f4f20653e80b6", func := "setsquare/setsquarelaw06.TowerConjugate", spec := "towerConjugate", unfollowed := true, recurses := true, named := ["math/bits.deBruijn64tab"], apart := false, laid := [("math/bits.deBruijn64tab", laid_math_bits_deBruijn64tab)] }
def TowerConjugateSaid : Prop := towerConjugateRow.holds Tryz.pinned (OpenSpec.ofChange towerConjugateSpec)

/-- ITS FALSE NEIGHBOUR: 'it returns false'. Refute it at one input. -/
def towerConjugateWrong : ChangeSpec := { name := "towerConjugate", fn := fun _ => fun
  | [d1, d2] => { results := [.lit (.bool false)], args := [d1, d2] }
  | _ => none }
def TowerConjugateWrongFalsely : Prop := towerConjugateRow.holds Tryz.pinned (OpenSpec.ofChange towerConjugateWrong)

/-- 'setsquarelaw06.TowerNorm': WHATEVER THE INPUT: true; the input reads as it did. -/
def towerNormSpec : ChangeSpec := { name := "towerNorm", fn := fun _ => fun
  | [d] => { results := [.lit (.bool true)], args := [d] }
  | _ => none }
def towerNormRow : OpenClaim := { program := "ytgagcochepnelaagreatdoor", sum := "992ac1c662dd8aa01045aa1f0572fa5009368a7bb319f131e88f4f20653e80b6", func := "setsquare/setsquarelaw06.TowerNorm", spec := "towerNorm", unfollowed := true, recurses := true, named := ["math/bits.deBruijn64tab"], apart := false, laid := [("math/bits.deBruijn64tab", laid_math_bits_deBruijn64tab)] }
def TowerNormSaid : Prop := towerNormRow.holds Tryz.pinned (OpenSpec.ofChange towerNormSpec)

/-- ITS FALSE NEIGHBOUR: 'it returns false'. Refute it at one input. -/
def towerNormWrong : ChangeSpec := { name := "towerNorm", fn := fun _ => fun
  | [d] => { results := [.lit (.bool false)], args := [d] }
  | _ => none }
def TowerNormWrongFalsely : Prop := towerNormRow.holds Tryz.pinned (OpenSpec.ofChange towerNormWrong)

/- THE SECOND FORM. 'bulk': how many values and letters a reading holds, each counted each time it is reached (what is shared counts as often as it is met; a slice's spare places count too). A statement '..UptoSaid' is the law's where the arguments, and the package variables that the reading takes, are together of bulk at most 1048576: NARROWER than '..Said'. Prove '..Said' where nothing that the law and all that it calls make is longer than what came in: it says more and counts as full. Else prove '..UptoSaid'. A law counts once. -/
mutual
def uptoBulk {H : Type} : DataW H → Nat
  | .lit (.string bytes) => bytes.length + 1
  | .lit _ => 1
  | .nil => 1
  | .ptr d => uptoBulk d + 1
  | .slice elems spare => uptoBulkAll elems + uptoBulkAll spare + 1
  | .agg parts => uptoBulkAll parts + 1
  | .iface _ d => uptoBulk d + 1
  | .map entries => uptoBulkEntries entries + 1
  | .held _ => 1
def uptoBulkAll {H : Type} : List (DataW H) → Nat
  | [] => 0
  | d :: r => uptoBulk d + uptoBulkAll r
def uptoBulkEntries {H : Type} : List (Lit × DataW H) → Nat
  | [] => 0
  | x :: r => uptoBulkEntry x + uptoBulkEntries r
def uptoBulkEntry {H : Type} : Lit × DataW H → Nat
  | (.string bytes, d) => bytes.length + uptoBulk d + 1
  | (_, d) => uptoBulk d + 1
 end
def uptoSmall : (H : Type) → List (DataW H) → Bool := fun _ ds => decide (uptoBulkAll ds ≤ 1048576)
def OpenSpec.upto (s : _root_.Go.ChangeSpec) : _root_.Go.OpenSpec := { _root_.Go.OpenSpec.ofChange s with cond := some uptoSmall }

/-- 'setsquarelaw06.TowerFormed', WHERE WHAT IT READS IS OF BULK AT MOST 1048576: true; the input reads as it did. -/
def towerFormedUptoRow : OpenClaim := { program := "ytgagcochepnelaagreatdoor", sum := "992ac1c662dd8aa01045aa1f0572fa5009368a7bb319f131e88f4f20653e80b6", func := "setsquare/setsquarelaw06.TowerFormed", spec := "towerFormed", unfollowed := true, recurses := true, named := ["math/bits.deBruijn64tab"], apart := false, laid := [("math/bits.deBruijn64tab", laid_math_bits_deBruijn64tab)], narrowed := true }
def TowerFormedUptoSaid : Prop := towerFormedUptoRow.holds Tryz.pinned (OpenSpec.upto towerFormedSpec)

/-- 'setsquarelaw06.TowerSingle', WHERE WHAT IT READS IS OF BULK AT MOST 1048576: true; the input reads as it did. -/
def towerSingleUptoRow : OpenClaim := { program := "ytgagcochepnelaagreatdoor", sum := "992ac1c662dd8aa01045aa1f0572fa5009368a7bb319f131e88f4f20653e80b6", func := "setsquare/setsquarelaw06.TowerSingle", spec := "towerSingle", unfollowed := true, recurses := true, named := ["math/bits.deBruijn64tab"], apart := false, laid := [("math/bits.deBruijn64tab", laid_math_bits_deBruijn64tab)], narrowed := true }
def TowerSingleUptoSaid : Prop := towerSingleUptoRow.holds Tryz.pinned (OpenSpec.upto towerSingleSpec)

/-- 'setsquarelaw06.TowerRational', WHERE WHAT IT READS IS OF BULK AT MOST 1048576: true; the input reads as it did. -/
def towerRationalUptoRow : OpenClaim := { program := "ytgagcochepnelaagreatdoor", sum := "992ac1c662dd8aa01045aa1f0572fa5009368a7bb319f131e88f4f20653e80b6", func := "setsquare/setsquarelaw06.TowerRational", spec := "towerRational", unfollowed := true, recurses := true, named := ["math/bits.deBruijn64tab"], apart := false, laid := [("math/bits.deBruijn64tab", laid_math_bits_deBruijn64tab)], narrowed := true }
def TowerRationalUptoSaid : Prop := towerRationalUptoRow.holds Tryz.pinned (OpenSpec.upto towerRationalSpec)

/-- 'setsquarelaw06.TowerRing', WHERE WHAT IT READS IS OF BULK AT MOST 1048576: true; the input reads as it did. -/
def towerRingUptoRow : OpenClaim := { program := "ytgagcochepnelaagreatdoor", sum := "992ac1c662dd8aa01045aa1f0572fa5009368a7bb319f131e88f4f20653e80b6", func := "setsquare/setsquarelaw06.TowerRing", spec := "towerRing", unfollowed := true, recurses := true, named := ["math/bits.deBruijn64tab"], apart := false, laid := [("math/bits.deBruijn64tab", laid_math_bits_deBruijn64tab)], narrowed := true }
def TowerRingUptoSaid : Prop := towerRingUptoRow.holds Tryz.pinned (OpenSpec.upto towerRingSpec)

/-- 'setsquarelaw06.TowerInverse', WHERE WHAT IT READS IS OF BULK AT MOST 1048576: true; the input reads as it did. -/
def towerInverseUptoRow : OpenClaim := { program := "ytgagcochepnelaagreatdoor", sum := "992ac1c662dd8aa01045aa1f0572fa5009368a7bb319f131e88f4f20653e80b6", func := "setsquare/setsquarelaw06.TowerInverse", spec := "towerInverse", unfollowed := true, recurses := true, named := ["math/bits.deBruijn64tab"], apart := false, laid := [("math/bits.deBruijn64tab", laid_math_bits_deBruijn64tab)], narrowed := true }
def TowerInverseUptoSaid : Prop := towerInverseUptoRow.holds Tryz.pinned (OpenSpec.upto towerInverseSpec)

/-- 'setsquarelaw06.TowerRoots', WHERE WHAT IT READS IS OF BULK AT MOST 1048576: true; the input reads as it did. -/
def towerRootsUptoRow : OpenClaim := { program := "ytgagcochepnelaagreatdoor", sum := "992ac1c662dd8aa01045aa1f0572fa5009368a7bb319f131e88f4f20653e80b6", func := "setsquare/setsquarelaw06.TowerRoots", spec := "towerRoots", unfollowed := true, recurses := true, named := ["math/bits.deBruijn64tab"], apart := false, laid := [("math/bits.deBruijn64tab", laid_math_bits_deBruijn64tab)], narrowed := true }
def TowerRootsUptoSaid : Prop := towerRootsUptoRow.holds Tryz.pinned (OpenSpec.upto towerRootsSpec)

/-- 'setsquarelaw06.TowerConjugate', WHERE WHAT IT READS IS OF BULK AT MOST 1048576: true; the input reads as it did. -/
def towerConjugateUptoRow : OpenClaim := { program := "ytgagcochepnelaagreatdoor", sum := "992ac1c662dd8aa01045aa1f0572fa5009368a7bb319f131e88f4f20653e80b6", func := "setsquare/setsquarelaw06.TowerConjugate", spec := "towerConjugate", unfollowed := true, recurses := true, named := ["math/bits.deBruijn64tab"], apart := false, laid := [("math/bits.deBruijn64tab", laid_math_bits_deBruijn64tab)], narrowed := true }
def TowerConjugateUptoSaid : Prop := towerConjugateUptoRow.holds Tryz.pinned (OpenSpec.upto towerConjugateSpec)

/-- 'setsquarelaw06.TowerNorm', WHERE WHAT IT READS IS OF BULK AT MOST 1048576: true; the input reads as it did. -/
def towerNormUptoRow : OpenClaim := { program := "ytgagcochepnelaagreatdoor", sum := "992ac1c662dd8aa01045aa1f0572fa5009368a7bb319f131e88f4f20653e80b6", func := "setsquare/setsquarelaw06.TowerNorm", spec := "towerNorm", unfollowed := true, recurses := true, named := ["math/bits.deBruijn64tab"], apart := false, laid := [("math/bits.deBruijn64tab", laid_math_bits_deBruijn64tab)], narrowed := true }
def TowerNormUptoSaid : Prop := towerNormUptoRow.holds Tryz.pinned (OpenSpec.upto towerNormSpec)

end Rows
end Go.Proofs.YtgagcochepnelaaGreatDoor
