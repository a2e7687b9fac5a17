/-
  DERIVED. GIVEN WITH THE SEED: THE CARDS: each row of YtoabhnofppledaaGreatDoorRows.lean that lists a variable, with what it lists TIED to the program's text (the seventh form; the later family's looks); each row that meets fmt, with fmt's text TOLD by the authors' own Lean function (tested against real Go, not proved from fmt's source: count such statements apart). THE CARD IS WHAT COUNTS. Prove the row's statement (the work); the ties are given (YtoabhnofppledaaGreatDoorTie.lean); close each card by the builder's one call (the guide's Derived/Test/ToyasCard.lean, 'card_holds'). Laid BY PROGRAM, IN A SANDBOX (cutbox-door.mjs). By AI agents, Wed Nov 11 2026. No macro, syntax, notation, axiom, sorry.
-/
import Derived.Test.YtoabhnofppledaaGreatDoorRows
import GoSem.ClaimSeven
namespace Go.Proofs.YtoabhnofppledaaGreatDoor
namespace Rows

/-- THE TIED CARD OF 'setsquarelaw03.IntervalValid'. -/
def intervalValidCard : Claim7 := { stood := { row := intervalValidRow, standIns := [], harness := (true, "52f36751049e081b17f4800ee6fd04780ba76fc64a396ab578af7da5369658e5"), looks := false }, kinds := [], alts := [], laidByText := true, laidKinds := [.data], laidTests := true, laidLooks := .later }
def IntervalValidCardSaid : Prop := Claim7.holds Tryz.pinned (.plain (OpenSpec.ofChange intervalValidSpec)) intervalValidCard

/-- THE TIED CARD OF 'setsquarelaw03.IntervalSums'. -/
def intervalSumsCard : Claim7 := { stood := { row := intervalSumsRow, standIns := [], harness := (true, "52f36751049e081b17f4800ee6fd04780ba76fc64a396ab578af7da5369658e5"), looks := false }, kinds := [], alts := [], laidByText := true, laidKinds := [.data], laidTests := true, laidLooks := .later }
def IntervalSumsCardSaid : Prop := Claim7.holds Tryz.pinned (.plain (OpenSpec.ofChange intervalSumsSpec)) intervalSumsCard

/-- THE TIED CARD OF 'setsquarelaw03.IntervalProducts'. -/
def intervalProductsCard : Claim7 := { stood := { row := intervalProductsRow, standIns := [], harness := (true, "52f36751049e081b17f4800ee6fd04780ba76fc64a396ab578af7da5369658e5"), looks := false }, kinds := [], alts := [], laidByText := true, laidKinds := [.data], laidTests := true, laidLooks := .later }
def IntervalProductsCardSaid : Prop := Claim7.holds Tryz.pinned (.plain (OpenSpec.ofChange intervalProductsSpec)) intervalProductsCard

/-- THE TIED CARD OF 'setsquarelaw03.IntervalSqrt'. -/
def intervalSqrtCard : Claim7 := { stood := { row := intervalSqrtRow, standIns := [], harness := (true, "52f36751049e081b17f4800ee6fd04780ba76fc64a396ab578af7da5369658e5"), looks := false }, kinds := [], alts := [], laidByText := true, laidKinds := [.data], laidTests := true, laidLooks := .later }
def IntervalSqrtCardSaid : Prop := Claim7.holds Tryz.pinned (.plain (OpenSpec.ofChange intervalSqrtSpec)) intervalSqrtCard

/-- THE TIED CARD OF 'setsquarelaw03.IntervalRound'. -/
def intervalRoundCard : Claim7 := { stood := { row := intervalRoundRow, standIns := [], harness := (true, "52f36751049e081b17f4800ee6fd04780ba76fc64a396ab578af7da5369658e5"), looks := false }, kinds := [], alts := [], laidByText := true, laidKinds := [.data], laidTests := true, laidLooks := .later }
def IntervalRoundCardSaid : Prop := Claim7.holds Tryz.pinned (.plain (OpenSpec.ofChange intervalRoundSpec)) intervalRoundCard

/-- THE TIED CARD OF 'setsquarelaw03.IntervalMembers'. -/
def intervalMembersCard : Claim7 := { stood := { row := intervalMembersRow, standIns := [], harness := (true, "52f36751049e081b17f4800ee6fd04780ba76fc64a396ab578af7da5369658e5"), looks := false }, kinds := [], alts := [], laidByText := true, laidKinds := [.data], laidTests := true, laidLooks := .later }
def IntervalMembersCardSaid : Prop := Claim7.holds Tryz.pinned (.plain (OpenSpec.ofChange intervalMembersSpec)) intervalMembersCard

/-- THE TIED CARD OF 'setsquarelaw03.IntervalMeet'. -/
def intervalMeetCard : Claim7 := { stood := { row := intervalMeetRow, standIns := [], harness := (true, "52f36751049e081b17f4800ee6fd04780ba76fc64a396ab578af7da5369658e5"), looks := false }, kinds := [], alts := [], laidByText := true, laidKinds := [.data], laidTests := true, laidLooks := .later }
def IntervalMeetCardSaid : Prop := Claim7.holds Tryz.pinned (.plain (OpenSpec.ofChange intervalMeetSpec)) intervalMeetCard

/-- THE TIED CARD OF 'setsquarelaw03.IntervalEnclosure'. -/
def intervalEnclosureCard : Claim7 := { stood := { row := intervalEnclosureRow, standIns := [], harness := (true, "52f36751049e081b17f4800ee6fd04780ba76fc64a396ab578af7da5369658e5"), looks := false }, kinds := [], alts := [], laidByText := true, laidKinds := [.data], laidTests := true, laidLooks := .later }
def IntervalEnclosureCardSaid : Prop := Claim7.holds Tryz.pinned (.plain (OpenSpec.ofChange intervalEnclosureSpec)) intervalEnclosureCard

/-- THE TIED CARD OF 'setsquarelaw03.IntervalMonotonic'. -/
def intervalMonotonicCard : Claim7 := { stood := { row := intervalMonotonicRow, standIns := [], harness := (true, "52f36751049e081b17f4800ee6fd04780ba76fc64a396ab578af7da5369658e5"), looks := false }, kinds := [], alts := [], laidByText := true, laidKinds := [.data], laidTests := true, laidLooks := .later }
def IntervalMonotonicCardSaid : Prop := Claim7.holds Tryz.pinned (.plain (OpenSpec.ofChange intervalMonotonicSpec)) intervalMonotonicCard

/-- THE SECOND FORM's CARD OF 'setsquarelaw03.IntervalValid'. -/
def intervalValidUptoCard : Claim7 := { stood := { row := intervalValidUptoRow, standIns := [], harness := (true, "52f36751049e081b17f4800ee6fd04780ba76fc64a396ab578af7da5369658e5"), looks := false }, kinds := [], alts := [], laidByText := true, laidKinds := [.data], laidTests := true, laidLooks := .later }
def IntervalValidUptoCardSaid : Prop := Claim7.holds Tryz.pinned (.plain (OpenSpec.upto intervalValidSpec)) intervalValidUptoCard

/-- THE SECOND FORM's CARD OF 'setsquarelaw03.IntervalSums'. -/
def intervalSumsUptoCard : Claim7 := { stood := { row := intervalSumsUptoRow, standIns := [], harness := (true, "52f36751049e081b17f4800ee6fd04780ba76fc64a396ab578af7da5369658e5"), looks := false }, kinds := [], alts := [], laidByText := true, laidKinds := [.data], laidTests := true, laidLooks := .later }
def IntervalSumsUptoCardSaid : Prop := Claim7.holds Tryz.pinned (.plain (OpenSpec.upto intervalSumsSpec)) intervalSumsUptoCard

/-- THE SECOND FORM's CARD OF 'setsquarelaw03.IntervalProducts'. -/
def intervalProductsUptoCard : Claim7 := { stood := { row := intervalProductsUptoRow, standIns := [], harness := (true, "52f36751049e081b17f4800ee6fd04780ba76fc64a396ab578af7da5369658e5"), looks := false }, kinds := [], alts := [], laidByText := true, laidKinds := [.data], laidTests := true, laidLooks := .later }
def IntervalProductsUptoCardSaid : Prop := Claim7.holds Tryz.pinned (.plain (OpenSpec.upto intervalProductsSpec)) intervalProductsUptoCard

/-- THE SECOND FORM's CARD OF 'setsquarelaw03.IntervalSqrt'. -/
def intervalSqrtUptoCard : Claim7 := { stood := { row := intervalSqrtUptoRow, standIns := [], harness := (true, "52f36751049e081b17f4800ee6fd04780ba76fc64a396ab578af7da5369658e5"), looks := false }, kinds := [], alts := [], laidByText := true, laidKinds := [.data], laidTests := true, laidLooks := .later }
def IntervalSqrtUptoCardSaid : Prop := Claim7.holds Tryz.pinned (.plain (OpenSpec.upto intervalSqrtSpec)) intervalSqrtUptoCard

/-- THE SECOND FORM's CARD OF 'setsquarelaw03.IntervalRound'. -/
def intervalRoundUptoCard : Claim7 := { stood := { row := intervalRoundUptoRow, standIns := [], harness := (true, "52f36751049e081b17f4800ee6fd04780ba76fc64a396ab578af7da5369658e5"), looks := false }, kinds := [], alts := [], laidByText := true, laidKinds := [.data], laidTests := true, laidLooks := .later }
def IntervalRoundUptoCardSaid : Prop := Claim7.holds Tryz.pinned (.plain (OpenSpec.upto intervalRoundSpec)) intervalRoundUptoCard

/-- THE SECOND FORM's CARD OF 'setsquarelaw03.IntervalMembers'. -/
def intervalMembersUptoCard : Claim7 := { stood := { row := intervalMembersUptoRow, standIns := [], harness := (true, "52f36751049e081b17f4800ee6fd04780ba76fc64a396ab578af7da5369658e5"), looks := false }, kinds := [], alts := [], laidByText := true, laidKinds := [.data], laidTests := true, laidLooks := .later }
def IntervalMembersUptoCardSaid : Prop := Claim7.holds Tryz.pinned (.plain (OpenSpec.upto intervalMembersSpec)) intervalMembersUptoCard

/-- THE SECOND FORM's CARD OF 'setsquarelaw03.IntervalMeet'. -/
def intervalMeetUptoCard : Claim7 := { stood := { row := intervalMeetUptoRow, standIns := [], harness := (true, "52f36751049e081b17f4800ee6fd04780ba76fc64a396ab578af7da5369658e5"), looks := false }, kinds := [], alts := [], laidByText := true, laidKinds := [.data], laidTests := true, laidLooks := .later }
def IntervalMeetUptoCardSaid : Prop := Claim7.holds Tryz.pinned (.plain (OpenSpec.upto intervalMeetSpec)) intervalMeetUptoCard

/-- THE SECOND FORM's CARD OF 'setsquarelaw03.IntervalEnclosure'. -/
def intervalEnclosureUptoCard : Claim7 := { stood := { row := intervalEnclosureUptoRow, standIns := [], harness := (true, "52f36751049e081b17f4800ee6fd04780ba76fc64a396ab578af7da5369658e5"), looks := false }, kinds := [], alts := [], laidByText := true, laidKinds := [.data], laidTests := true, laidLooks := .later }
def IntervalEnclosureUptoCardSaid : Prop := Claim7.holds Tryz.pinned (.plain (OpenSpec.upto intervalEnclosureSpec)) intervalEnclosureUptoCard

/-- THE SECOND FORM's CARD OF 'setsquarelaw03.IntervalMonotonic'. -/
def intervalMonotonicUptoCard : Claim7 := { stood := { row := intervalMonotonicUptoRow, standIns := [], harness := (true, "52f36751049e081b17f4800ee6fd04780ba76fc64a396ab578af7da5369658e5"), looks := false }, kinds := [], alts := [], laidByText := true, laidKinds := [.data], laidTests := true, laidLooks := .later }
def IntervalMonotonicUptoCardSaid : Prop := Claim7.holds Tryz.pinned (.plain (OpenSpec.upto intervalMonotonicSpec)) intervalMonotonicUptoCard
end Rows
end Go.Proofs.YtoabhnofppledaaGreatDoor
