/-
  NARROWER THAN 'FOR EVERY INPUT', by the rows' own cells (each row's printed sentence says how): PolynomialAdd: laid · PolynomialMul: laid · PolynomialEval: laid · PolynomialDivMod: laid · PolynomialDerivative: laid · PolynomialPrimitive: laid.
  DERIVED. THE GIVEN ROWS OF THIS SEAT. 6 by the template 'for every input the law returns true; each argument reads behind the call as it read before'; 0 by the template 'total and deterministic' (their statements: YtpeddoaknfjbbaaGreatDoorTotals.lean).
  GIVEN WITH THE SEED: the statements are not yours to turn. If you find one false, say at which input.
  Laid BY PROGRAM, IN A SANDBOX (cutbox-rows.mjs): the forced cells as the released guide's own fill.sh prints them over the translation 84421bb10d043475… (all of the seat's roots in one cut). By AI agents, Wed Nov 11 2026. No macro, syntax, notation, axiom, sorry.
-/
import Derived.Test.YtpeddoaknfjbbaaGreatDoorChecked
import GoSem.Claim
import GoSem.ClaimJoined
import GoSem.ClaimMapViews
import Derived.JoinedTies
import Derived.KernelRfl
namespace Go.Proofs.YtpeddoaknfjbbaaGreatDoor
/- THE CELL 'sum', in the pinned program and in every row, IS THE sha256 OF THE DUMP (.gsa) THAT YtpeddoaknfjbbaaGreatDoorProg.lean LOADS. Nothing in Lean hashes anything: it is a label: what it is worth is what the hold of that sum in a sandbox is worth. -/
noncomputable def Tryz.pinned : Pinned := { name := "ytpeddoaknfjbbaagreatdoor", sum := "84421bb10d043475d5939667b35f7c41137d1d8a15e6a1939926407a36dee490", checked := Tryz.checked }
namespace Rows
def none {H : Type} : Left H := { results := [], args := [] }

/- WHAT THE LISTED PACKAGE-LEVEL VARIABLES READ AS WHEN THE CALL BEGINS. Each datum BY PROGRAM (the guide's laid-datum.mjs) off the statement by which the dump's own 'gosem.cut.vars' lays the variable. In a bare row this is a premise. The card (YtpeddoaknfjbbaaGreatDoorCards.lean) ties it to the program's text. -/
def laid_math_bits_deBruijn64tab {H : Type} : DataW H := .agg [.lit (.int .u8 0), .lit (.int .u8 1), .lit (.int .u8 56), .lit (.int .u8 2), .lit (.int .u8 57), .lit (.int .u8 49), .lit (.int .u8 28), .lit (.int .u8 3), .lit (.int .u8 61), .lit (.int .u8 58), .lit (.int .u8 42), .lit (.int .u8 50), .lit (.int .u8 38), .lit (.int .u8 29), .lit (.int .u8 17), .lit (.int .u8 4), .lit (.int .u8 62), .lit (.int .u8 47), .lit (.int .u8 59), .lit (.int .u8 36), .lit (.int .u8 45), .lit (.int .u8 43), .lit (.int .u8 51), .lit (.int .u8 22), .lit (.int .u8 53), .lit (.int .u8 39), .lit (.int .u8 33), .lit (.int .u8 30), .lit (.int .u8 24), .lit (.int .u8 18), .lit (.int .u8 12), .lit (.int .u8 5), .lit (.int .u8 63), .lit (.int .u8 55), .lit (.int .u8 48), .lit (.int .u8 27), .lit (.int .u8 60), .lit (.int .u8 41), .lit (.int .u8 37), .lit (.int .u8 16), .lit (.int .u8 46), .lit (.int .u8 35), .lit (.int .u8 44), .lit (.int .u8 21), .lit (.int .u8 52), .lit (.int .u8 32), .lit (.int .u8 23), .lit (.int .u8 11), .lit (.int .u8 54), .lit (.int .u8 26), .lit (.int .u8 40), .lit (.int .u8 15), .lit (.int .u8 34), .lit (.int .u8 20), .lit (.int .u8 31), .lit (.int .u8 10), .lit (.int .u8 25), .lit (.int .u8 14), .lit (.int .u8 19), .lit (.int .u8 9), .lit (.int .u8 13), .lit (.int .u8 8), .lit (.int .u8 7), .lit (.int .u8 6)]

/-- 'setsquarelaw04.PolynomialAdd': WHATEVER THE INPUT: true; the input reads as it did. -/
def polynomialAddSpec : ChangeSpec := { name := "polynomialAdd", fn := fun _ => fun
  | [d1, d2, d3] => { results := [.lit (.bool true)], args := [d1, d2, d3] }
  | _ => none }
def polynomialAddRow : OpenClaim := { program := "ytpeddoaknfjbbaagreatdoor", sum := "84421bb10d043475d5939667b35f7c41137d1d8a15e6a1939926407a36dee490", func := "setsquare/setsquarelaw04.PolynomialAdd", spec := "polynomialAdd", unfollowed := true, recurses := true, named := ["math/bits.deBruijn64tab"], apart := false, laid := [("math/bits.deBruijn64tab", laid_math_bits_deBruijn64tab)] }
def PolynomialAddSaid : Prop := polynomialAddRow.holds Tryz.pinned (OpenSpec.ofChange polynomialAddSpec)

/-- ITS FALSE NEIGHBOUR: 'it returns false'. Refute it at one input. -/
def polynomialAddWrong : ChangeSpec := { name := "polynomialAdd", fn := fun _ => fun
  | [d1, d2, d3] => { results := [.lit (.bool false)], args := [d1, d2, d3] }
  | _ => none }
def PolynomialAddWrongFalsely : Prop := polynomialAddRow.holds Tryz.pinned (OpenSpec.ofChange polynomialAddWrong)

/-- 'setsquarelaw04.PolynomialMul': WHATEVER THE INPUT: true; the input reads as it did. -/
def polynomialMulSpec : ChangeSpec := { name := "polynomialMul", fn := fun _ => fun
  | [d1, d2, d3] => { results := [.lit (.bool true)], args := [d1, d2, d3] }
  | _ => none }
def polynomialMulRow : OpenClaim := { program := "ytpeddoaknfjbbaagreatdoor", sum := "84421bb10d043475d5939667b35f7c41137d1d8a15e6a1939926407a36dee490", func := "setsquare/setsquarelaw04.PolynomialMul", spec := "polynomialMul", unfollowed := true, recurses := true, named := ["math/bits.deBruijn64tab"], apart := false, laid := [("math/bits.deBruijn64tab", laid_math_bits_deBruijn64tab)] }
def PolynomialMulSaid : Prop := polynomialMulRow.holds Tryz.pinned (OpenSpec.ofChange polynomialMulSpec)

/-- ITS FALSE NEIGHBOUR: 'it returns false'. Refute it at one input. -/
def polynomialMulWrong : ChangeSpec := { name := "polynomialMul", fn := fun _ => fun
  | [d1, d2, d3] => { results := [.lit (.bool false)], args := [d1, d2, d3] }
  | _ => none }
def PolynomialMulWrongFalsely : Prop := polynomialMulRow.holds Tryz.pinned (OpenSpec.ofChange polynomialMulWrong)

/-- 'setsquarelaw04.PolynomialEval': WHATEVER THE INPUT: true; the input reads as it did. -/
def polynomialEvalSpec : ChangeSpec := { name := "polynomialEval", fn := fun _ => fun
  | [d1, d2, d3] => { results := [.lit (.bool true)], args := [d1, d2, d3] }
  | _ => none }
def polynomialEvalRow : OpenClaim := { program := "ytpeddoaknfjbbaagreatdoor", sum := "84421bb10d043475d5939667b35f7c41137d1d8a15e6a1939926407a36dee490", func := "setsquare/setsquarelaw04.PolynomialEval", spec := "polynomialEval", unfollowed := true, recurses := true, named := ["math/bits.deBruijn64tab"], apart := false, laid := [("math/bits.deBruijn64tab", laid_math_bits_deBruijn64tab)] }
def PolynomialEvalSaid : Prop := polynomialEvalRow.holds Tryz.pinned (OpenSpec.ofChange polynomialEvalSpec)

/-- ITS FALSE NEIGHBOUR: 'it returns false'. Refute it at one input. -/
def polynomialEvalWrong : ChangeSpec := { name := "polynomialEval", fn := fun _ => fun
  | [d1, d2, d3] => { results := [.lit (.bool false)], args := [d1, d2, d3] }
  | _ => none }
def PolynomialEvalWrongFalsely : Prop := polynomialEvalRow.holds Tryz.pinned (OpenSpec.ofChange polynomialEvalWrong)

/-- 'setsquarelaw04.PolynomialDivMod': WHATEVER THE INPUT: true; the input reads as it did. -/
def polynomialDivModSpec : ChangeSpec := { name := "polynomialDivMod", fn := fun _ => fun
  | [d1, d2] => { results := [.lit (.bool true)], args := [d1, d2] }
  | _ => none }
def polynomialDivModRow : OpenClaim := { program := "ytpeddoaknfjbbaagreatdoor", sum := "84421bb10d043475d5939667b35f7c41137d1d8a15e6a1939926407a36dee490", func := "setsquare/setsquarelaw04.PolynomialDivMod", spec := "polynomialDivMod", unfollowed := true, recurses := true, named := ["math/bits.deBruijn64tab"], apart := false, laid := [("math/bits.deBruijn64tab", laid_math_bits_deBruijn64tab)] }
def PolynomialDivModSaid : Prop := polynomialDivModRow.holds Tryz.pinned (OpenSpec.ofChange polynomialDivModSpec)

/-- ITS FALSE NEIGHBOUR: 'it returns false'. Refute it at one input. -/
def polynomialDivModWrong : ChangeSpec := { name := "polynomialDivMod", fn := fun _ => fun
  | [d1, d2] => { results := [.lit (.bool false)], args := [d1, d2] }
  | _ => none }
def PolynomialDivModWrongFalsely : Prop := polynomialDivModRow.holds Tryz.pinned (OpenSpec.ofChange polynomialDivModWrong)

/-- 'setsquarelaw04.PolynomialDerivative': WHATEVER THE INPUT: true; the input reads as it did. -/
def polynomialDerivativeSpec : ChangeSpec := { name := "polynomialDerivative", fn := fun _ => fun
  | [d1, d2] => { results := [.lit (.bool true)], args := [d1, d2] }
  | _ => none }
def polynomialDerivativeRow : OpenClaim := { program := "ytpeddoaknfjbbaagreatdoor", sum := "84421bb10d043475d5939667b35f7c41137d1d8a15e6a1939926407a36dee490", func := "setsquare/setsquarelaw04.PolynomialDerivative", spec := "polynomialDerivative", unfollowed := true, recurses := true, named := ["math/bits.deBruijn64tab"], apart := false, laid := [("math/bits.deBruijn64tab", laid_math_bits_deBruijn64tab)] }
def PolynomialDerivativeSaid : Prop := polynomialDerivativeRow.holds Tryz.pinned (OpenSpec.ofChange polynomialDerivativeSpec)

/-- ITS FALSE NEIGHBOUR: 'it returns false'. Refute it at one input. -/
def polynomialDerivativeWrong : ChangeSpec := { name := "polynomialDerivative", fn := fun _ => fun
  | [d1, d2] => { results := [.lit (.bool false)], args := [d1, d2] }
  | _ => none }
def PolynomialDerivativeWrongFalsely : Prop := polynomialDerivativeRow.holds Tryz.pinned (OpenSpec.ofChange polynomialDerivativeWrong)

/-- 'setsquarelaw04.PolynomialPrimitive': WHATEVER THE INPUT: true; the input reads as it did. -/
def polynomialPrimitiveSpec : ChangeSpec := { name := "polynomialPrimitive", fn := fun _ => fun
  | [d1, d2] => { results := [.lit (.bool true)], args := [d1, d2] }
  | _ => none }
def polynomialPrimitiveRow : OpenClaim := { program := "ytpeddoaknfjbbaagreatdoor", sum := "84421bb10d043475d5939667b35f7c41137d1d8a15e6a1939926407a36dee490", func := "setsquare/setsquarelaw04.PolynomialPrimitive", spec := "polynomialPrimitive", unfollowed := true, recurses := true, named := ["math/bits.deBruijn64tab"], apart := false, laid := [("math/bits.deBruijn64tab", laid_math_bits_deBruijn64tab)] }
def PolynomialPrimitiveSaid : Prop := polynomialPrimitiveRow.holds Tryz.pinned (OpenSpec.ofChange polynomialPrimitiveSpec)

/-- ITS FALSE NEIGHBOUR: 'it returns false'. Refute it at one input. -/
def polynomialPrimitiveWrong : ChangeSpec := { name := "polynomialPrimitive", fn := fun _ => fun
  | [d1, d2] => { results := [.lit (.bool false)], args := [d1, d2] }
  | _ => none }
def PolynomialPrimitiveWrongFalsely : Prop := polynomialPrimitiveRow.holds Tryz.pinned (OpenSpec.ofChange polynomialPrimitiveWrong)

/- THE SECOND FORM. 'bulk': how many values and letters a reading holds, each counted each time it is reached (what is shared counts as often as it is met; a slice's spare places count too). A statement '..UptoSaid' is the law's where the arguments, and the package variables that the reading takes, are together of bulk at most 1048576: NARROWER than '..Said'. Prove '..Said' where nothing that the law and all that it calls make is longer than what came in: it says more and counts as full. Else prove '..UptoSaid'. A law counts once. -/
mutual
def uptoBulk {H : Type} : DataW H → Nat
  | .lit (.string bytes) => bytes.length + 1
  | .lit _ => 1
  | .nil => 1
  | .ptr d => uptoBulk d + 1
  | .slice elems spare => uptoBulkAll elems + uptoBulkAll spare + 1
  | .agg parts => uptoBulkAll parts + 1
  | .iface _ d => uptoBulk d + 1
  | .map entries => uptoBulkEntries entries + 1
  | .held _ => 1
def uptoBulkAll {H : Type} : List (DataW H) → Nat
  | [] => 0
  | d :: r => uptoBulk d + uptoBulkAll r
def uptoBulkEntries {H : Type} : List (Lit × DataW H) → Nat
  | [] => 0
  | x :: r => uptoBulkEntry x + uptoBulkEntries r
def uptoBulkEntry {H : Type} : Lit × DataW H → Nat
  | (.string bytes, d) => bytes.length + uptoBulk d + 1
  | (_, d) => uptoBulk d + 1
 end
def uptoSmall : (H : Type) → List (DataW H) → Bool := fun _ ds => decide (uptoBulkAll ds ≤ 1048576)
def OpenSpec.upto (s : _root_.Go.ChangeSpec) : _root_.Go.OpenSpec := { _root_.Go.OpenSpec.ofChange s with cond := some uptoSmall }

/-- 'setsquarelaw04.PolynomialAdd', WHERE WHAT IT READS IS OF BULK AT MOST 1048576: true; the input reads as it did. -/
def polynomialAddUptoRow : OpenClaim := { program := "ytpeddoaknfjbbaagreatdoor", sum := "84421bb10d043475d5939667b35f7c41137d1d8a15e6a1939926407a36dee490", func := "setsquare/setsquarelaw04.PolynomialAdd", spec := "polynomialAdd", unfollowed := true, recurses := true, named := ["math/bits.deBruijn64tab"], apart := false, laid := [("math/bits.deBruijn64tab", laid_math_bits_deBruijn64tab)], narrowed := true }
def PolynomialAddUptoSaid : Prop := polynomialAddUptoRow.holds Tryz.pinned (OpenSpec.upto polynomialAddSpec)

/-- 'setsquarelaw04.PolynomialMul', WHERE WHAT IT READS IS OF BULK AT MOST 1048576: true; the input reads as it did. -/
def polynomialMulUptoRow : OpenClaim := { program := "ytpeddoaknfjbbaagreatdoor", sum := "84421bb10d043475d5939667b35f7c41137d1d8a15e6a1939926407a36dee490", func := "setsquare/setsquarelaw04.PolynomialMul", spec := "polynomialMul", unfollowed := true, recurses := true, named := ["math/bits.deBruijn64tab"], apart := false, laid := [("math/bits.deBruijn64tab", laid_math_bits_deBruijn64tab)], narrowed := true }
def PolynomialMulUptoSaid : Prop := polynomialMulUptoRow.holds Tryz.pinned (OpenSpec.upto polynomialMulSpec)

/-- 'setsquarelaw04.PolynomialEval', WHERE WHAT IT READS IS OF BULK AT MOST 1048576: true; the input reads as it did. -/
def polynomialEvalUptoRow : OpenClaim := { program := "ytpeddoaknfjbbaagreatdoor", sum := "84421bb10d043475d5939667b35f7c41137d1d8a15e6a1939926407a36dee490", func := "setsquare/setsquarelaw04.PolynomialEval", spec := "polynomialEval", unfollowed := true, recurses := true, named := ["math/bits.deBruijn64tab"], apart := false, laid := [("math/bits.deBruijn64tab", laid_math_bits_deBruijn64tab)], narrowed := true }
def PolynomialEvalUptoSaid : Prop := polynomialEvalUptoRow.holds Tryz.pinned (OpenSpec.upto polynomialEvalSpec)

/-- 'setsquarelaw04.PolynomialDivMod', WHERE WHAT IT READS IS OF BULK AT MOST 1048576: true; the input reads as it did. -/
def polynomialDivModUptoRow : OpenClaim := { program := "ytpeddoaknfjbbaagreatdoor", sum := "84421bb10d043475d5939667b35f7c41137d1d8a15e6a1939926407a36dee490", func := "setsquare/setsquarelaw04.PolynomialDivMod", spec := "polynomialDivMod", unfollowed := true, recurses := true, named := ["math/bits.deBruijn64tab"], apart := false, laid := [("math/bits.deBruijn64tab", laid_math_bits_deBruijn64tab)], narrowed := true }
def PolynomialDivModUptoSaid : Prop := polynomialDivModUptoRow.holds Tryz.pinned (OpenSpec.upto polynomialDivModSpec)

/-- 'setsquarelaw04.PolynomialDerivative', WHERE WHAT IT READS IS OF BULK AT MOST 1048576: true; the input reads as it did. -/
def polynomialDerivativeUptoRow : OpenClaim := { program := "ytpeddoaknfjbbaagreatdoor", sum := "84421bb10d043475d5939667b35f7c41137d1d8a15e6a1939926407a36dee490", func := "setsquare/setsquarelaw04.PolynomialDerivative", spec := "polynomialDerivative", unfollowed := true, recurses := true, named := ["math/bits.deBruijn64tab"], apart := false, laid := [("math/bits.deBruijn64tab", laid_math_bits_deBruijn64tab)], narrowed := true }
def PolynomialDerivativeUptoSaid : Prop := polynomialDerivativeUptoRow.holds Tryz.pinned (OpenSpec.upto polynomialDerivativeSpec)

/-- 'setsquarelaw04.PolynomialPrimitive', WHERE WHAT IT READS IS OF BULK AT MOST 1048576: true; the input reads as it did. -/
def polynomialPrimitiveUptoRow : OpenClaim := { program := "ytpeddoaknfjbbaagreatdoor", sum := "84421bb10d043475d5939667b35f7c41137d1d8a15e6a1939926407a36dee490", func := "setsquare/setsquarelaw04.PolynomialPrimitive", spec := "polynomialPrimitive", unfollowed := true, recurses := true, named := ["math/bits.deBruijn64tab"], apart := false, laid := [("math/bits.deBruijn64tab", laid_math_bits_deBruijn64tab)], narrowed := true }
def PolynomialPrimitiveUptoSaid : Prop := polynomialPrimitiveUptoRow.holds Tryz.pinned (OpenSpec.upto polynomialPrimitiveSpec)

end Rows
end Go.Proofs.YtpeddoaknfjbbaaGreatDoor
