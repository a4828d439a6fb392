/-
  DERIVED. GIVEN WITH THE SEED: THE CARDS: each row of YtomodncooiddaaaDoorRows.lean that lists a variable, with what it lists TIED to the program's text (the seventh form; the later family's looks); each row that meets fmt, with fmt's text TOLD by the authors' own Lean function (tested against real Go, not proved from fmt's source: count such statements apart). THE CARD IS WHAT COUNTS. Prove the row's statement (the work); the ties are given (YtomodncooiddaaaDoorTie.lean); close each card by the builder's one call (the guide's Derived/Test/ToyasCard.lean, 'card_holds'). Laid BY PROGRAM, IN A SANDBOX (cutbox-door.mjs). By AI agents, Wed Nov 11 2026. No macro, syntax, notation, axiom, sorry.
-/
import Derived.Test.YtomodncooiddaaaDoorRows
import GoSem.ClaimSeven
namespace Go.Proofs.YtomodncooiddaaaDoor
namespace Rows

/-- THE TIED CARD OF 'jetsamlaw02.AstLong'. -/
def astLongCard : Claim7 := { stood := { row := astLongRow, standIns := [], harness := (true, "b15268588df28ffcc194885ad60977731574ec33c7ead660b21ec75da81e5fc4"), looks := false }, kinds := [], alts := [], laidByText := true, laidKinds := [.data, .data, .data], laidTests := true, laidLooks := .later }
def AstLongCardSaid : Prop := Claim7.holds Tryd.pinned (.plain (OpenSpec.ofChange astLongSpec)) astLongCard

/-- THE TIED CARD OF 'jetsamlaw02.AstJoins'. -/
def astJoinsCard : Claim7 := { stood := { row := astJoinsRow, standIns := [], harness := (true, "b15268588df28ffcc194885ad60977731574ec33c7ead660b21ec75da81e5fc4"), looks := false }, kinds := [], alts := [], laidByText := true, laidKinds := [.data, .data, .data], laidTests := true, laidLooks := .later }
def AstJoinsCardSaid : Prop := Claim7.holds Tryd.pinned (.plain (OpenSpec.ofChange astJoinsSpec)) astJoinsCard

/-- THE TIED CARD OF 'jetsamlaw02.AstNames'. -/
def astNamesCard : Claim7 := { stood := { row := astNamesRow, standIns := [], harness := (true, "b15268588df28ffcc194885ad60977731574ec33c7ead660b21ec75da81e5fc4"), looks := false }, kinds := [], alts := [], laidByText := true, laidKinds := [.data, .data, .data], laidTests := true, laidLooks := .later }
def AstNamesCardSaid : Prop := Claim7.holds Tryd.pinned (.plain (OpenSpec.ofChange astNamesSpec)) astNamesCard

/-- THE TIED CARD OF 'jetsamlaw17.ReportItvs'. -/
def reportItvsCard : Claim7 := { stood := { row := reportItvsRow, standIns := [], harness := (true, "b15268588df28ffcc194885ad60977731574ec33c7ead660b21ec75da81e5fc4"), looks := false }, kinds := [], alts := [], laidByText := true, laidKinds := [.data, .data, .data], laidTests := true, laidLooks := .later }
def ReportItvsCardSaid : Prop := Claim7.holds Tryd.pinned (.plain (OpenSpec.ofChange reportItvsSpec)) reportItvsCard

/-- THE TIED CARD OF 'jetsamlaw17.ReportRaw'. -/
def reportRawCard : Claim7 := { stood := { row := reportRawRow, standIns := [], harness := (true, "b15268588df28ffcc194885ad60977731574ec33c7ead660b21ec75da81e5fc4"), looks := false }, kinds := [], alts := [], laidByText := true, laidKinds := [.data, .data, .data], laidTests := true, laidLooks := .later }
def ReportRawCardSaid : Prop := Claim7.holds Tryd.pinned (.plain (OpenSpec.ofChange reportRawSpec)) reportRawCard

/-- THE SECOND FORM's CARD OF 'jetsamlaw02.AstLong'. -/
def astLongUptoCard : Claim7 := { stood := { row := astLongUptoRow, standIns := [], harness := (true, "b15268588df28ffcc194885ad60977731574ec33c7ead660b21ec75da81e5fc4"), looks := false }, kinds := [], alts := [], laidByText := true, laidKinds := [.data, .data, .data], laidTests := true, laidLooks := .later }
def AstLongUptoCardSaid : Prop := Claim7.holds Tryd.pinned (.plain (OpenSpec.upto astLongSpec)) astLongUptoCard

/-- THE SECOND FORM's CARD OF 'jetsamlaw02.AstJoins'. -/
def astJoinsUptoCard : Claim7 := { stood := { row := astJoinsUptoRow, standIns := [], harness := (true, "b15268588df28ffcc194885ad60977731574ec33c7ead660b21ec75da81e5fc4"), looks := false }, kinds := [], alts := [], laidByText := true, laidKinds := [.data, .data, .data], laidTests := true, laidLooks := .later }
def AstJoinsUptoCardSaid : Prop := Claim7.holds Tryd.pinned (.plain (OpenSpec.upto astJoinsSpec)) astJoinsUptoCard

/-- THE SECOND FORM's CARD OF 'jetsamlaw02.AstNames'. -/
def astNamesUptoCard : Claim7 := { stood := { row := astNamesUptoRow, standIns := [], harness := (true, "b15268588df28ffcc194885ad60977731574ec33c7ead660b21ec75da81e5fc4"), looks := false }, kinds := [], alts := [], laidByText := true, laidKinds := [.data, .data, .data], laidTests := true, laidLooks := .later }
def AstNamesUptoCardSaid : Prop := Claim7.holds Tryd.pinned (.plain (OpenSpec.upto astNamesSpec)) astNamesUptoCard

/-- THE SECOND FORM's CARD OF 'jetsamlaw17.ReportItvs'. -/
def reportItvsUptoCard : Claim7 := { stood := { row := reportItvsUptoRow, standIns := [], harness := (true, "b15268588df28ffcc194885ad60977731574ec33c7ead660b21ec75da81e5fc4"), looks := false }, kinds := [], alts := [], laidByText := true, laidKinds := [.data, .data, .data], laidTests := true, laidLooks := .later }
def ReportItvsUptoCardSaid : Prop := Claim7.holds Tryd.pinned (.plain (OpenSpec.upto reportItvsSpec)) reportItvsUptoCard

/-- THE SECOND FORM's CARD OF 'jetsamlaw17.ReportRaw'. -/
def reportRawUptoCard : Claim7 := { stood := { row := reportRawUptoRow, standIns := [], harness := (true, "b15268588df28ffcc194885ad60977731574ec33c7ead660b21ec75da81e5fc4"), looks := false }, kinds := [], alts := [], laidByText := true, laidKinds := [.data, .data, .data], laidTests := true, laidLooks := .later }
def ReportRawUptoCardSaid : Prop := Claim7.holds Tryd.pinned (.plain (OpenSpec.upto reportRawSpec)) reportRawUptoCard
end Rows
end Go.Proofs.YtomodncooiddaaaDoor
