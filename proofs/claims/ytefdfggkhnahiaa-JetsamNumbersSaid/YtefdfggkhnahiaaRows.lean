/-
  No cell of these rows narrows 'for every input' (looked for: loops, veiled, ifaces, maps, wideKeys, modest, calm, conditions, laid).
  DERIVED. THE GIVEN ROWS OF THIS SEAT. 8 by the template 'for every input the law returns true; each argument reads behind the call as it read before'; 0 by the template 'total and deterministic' (their statements: YtefdfggkhnahiaaTotals.lean).
  GIVEN WITH THE SEED: the statements are not yours to turn. If you find one false, say at which input.
  Laid BY PROGRAM, IN A SANDBOX (cutbox-rows.mjs): the forced cells as the released guide's own fill.sh prints them over the translation bb4f3e6d26c22238… (all of the seat's roots in one cut). By AI agents, Wed Nov 11 2026. No macro, syntax, notation, axiom, sorry.
-/
import Derived.Test.YtefdfggkhnahiaaChecked
import GoSem.Claim
import GoSem.ClaimJoined
import GoSem.ClaimMapViews
import Derived.JoinedTies
import Derived.KernelRfl
namespace Go.Proofs.Ytefdfggkhnahiaa
/- THE CELL 'sum', in the pinned program and in every row, IS THE sha256 OF THE DUMP (.gsa) THAT YtefdfggkhnahiaaProg.lean LOADS. Nothing in Lean hashes anything: it is a label: what it is worth is what the hold of that sum in a sandbox is worth. -/
noncomputable def Try.pinned : Pinned := { name := "ytefdfggkhnahiaa", sum := "bb4f3e6d26c2223852c28a0fbffef041668b00b56a4b0e171b47c7f95648f578", checked := Try.checked }
namespace Rows
def none {H : Type} : Left H := { results := [], args := [] }

/-- 'jetsamlaw10.NumActs': WHATEVER THE INPUT: true; the input reads as it did. -/
def numActsSpec : ChangeSpec := { name := "numActs", fn := fun _ => fun
  | [d1, d2, d3] => { results := [.lit (.bool true)], args := [d1, d2, d3] }
  | _ => none }
def numActsRow : OpenClaim := { program := "ytefdfggkhnahiaa", sum := "bb4f3e6d26c2223852c28a0fbffef041668b00b56a4b0e171b47c7f95648f578", func := "jetsam/jetsamlaw10.NumActs", spec := "numActs", apart := false }
def NumActsSaid : Prop := numActsRow.holds Try.pinned (OpenSpec.ofChange numActsSpec)

/-- ITS FALSE NEIGHBOUR: 'it returns false'. Refute it at one input. -/
def numActsWrong : ChangeSpec := { name := "numActs", fn := fun _ => fun
  | [d1, d2, d3] => { results := [.lit (.bool false)], args := [d1, d2, d3] }
  | _ => none }
def NumActsWrongFalsely : Prop := numActsRow.holds Try.pinned (OpenSpec.ofChange numActsWrong)

/-- 'jetsamlaw10.NumJoins': WHATEVER THE INPUT: true; the input reads as it did. -/
def numJoinsSpec : ChangeSpec := { name := "numJoins", fn := fun _ => fun
  | [d1, d2, d3] => { results := [.lit (.bool true)], args := [d1, d2, d3] }
  | _ => none }
def numJoinsRow : OpenClaim := { program := "ytefdfggkhnahiaa", sum := "bb4f3e6d26c2223852c28a0fbffef041668b00b56a4b0e171b47c7f95648f578", func := "jetsam/jetsamlaw10.NumJoins", spec := "numJoins", apart := false }
def NumJoinsSaid : Prop := numJoinsRow.holds Try.pinned (OpenSpec.ofChange numJoinsSpec)

/-- ITS FALSE NEIGHBOUR: 'it returns false'. Refute it at one input. -/
def numJoinsWrong : ChangeSpec := { name := "numJoins", fn := fun _ => fun
  | [d1, d2, d3] => { results := [.lit (.bool false)], args := [d1, d2, d3] }
  | _ => none }
def NumJoinsWrongFalsely : Prop := numJoinsRow.holds Try.pinned (OpenSpec.ofChange numJoinsWrong)

/-- 'jetsamlaw10.NumHas': WHATEVER THE INPUT: true; the input reads as it did. -/
def numHasSpec : ChangeSpec := { name := "numHas", fn := fun _ => fun
  | [d1, d2] => { results := [.lit (.bool true)], args := [d1, d2] }
  | _ => none }
def numHasRow : OpenClaim := { program := "ytefdfggkhnahiaa", sum := "bb4f3e6d26c2223852c28a0fbffef041668b00b56a4b0e171b47c7f95648f578", func := "jetsam/jetsamlaw10.NumHas", spec := "numHas", apart := false }
def NumHasSaid : Prop := numHasRow.holds Try.pinned (OpenSpec.ofChange numHasSpec)

/-- ITS FALSE NEIGHBOUR: 'it returns false'. Refute it at one input. -/
def numHasWrong : ChangeSpec := { name := "numHas", fn := fun _ => fun
  | [d1, d2] => { results := [.lit (.bool false)], args := [d1, d2] }
  | _ => none }
def NumHasWrongFalsely : Prop := numHasRow.holds Try.pinned (OpenSpec.ofChange numHasWrong)

/-- 'jetsamlaw10.NumNobody': WHATEVER THE INPUT: true; the input reads as it did. -/
def numNobodySpec : ChangeSpec := { name := "numNobody", fn := fun _ => fun
  | [d1, d2, d3] => { results := [.lit (.bool true)], args := [d1, d2, d3] }
  | _ => none }
def numNobodyRow : OpenClaim := { program := "ytefdfggkhnahiaa", sum := "bb4f3e6d26c2223852c28a0fbffef041668b00b56a4b0e171b47c7f95648f578", func := "jetsam/jetsamlaw10.NumNobody", spec := "numNobody", apart := false }
def NumNobodySaid : Prop := numNobodyRow.holds Try.pinned (OpenSpec.ofChange numNobodySpec)

/-- ITS FALSE NEIGHBOUR: 'it returns false'. Refute it at one input. -/
def numNobodyWrong : ChangeSpec := { name := "numNobody", fn := fun _ => fun
  | [d1, d2, d3] => { results := [.lit (.bool false)], args := [d1, d2, d3] }
  | _ => none }
def NumNobodyWrongFalsely : Prop := numNobodyRow.holds Try.pinned (OpenSpec.ofChange numNobodyWrong)

/-- 'jetsamlaw10.NumCopies': WHATEVER THE INPUT: true; the input reads as it did. -/
def numCopiesSpec : ChangeSpec := { name := "numCopies", fn := fun _ => fun
  | [d1, d2, d3] => { results := [.lit (.bool true)], args := [d1, d2, d3] }
  | _ => none }
def numCopiesRow : OpenClaim := { program := "ytefdfggkhnahiaa", sum := "bb4f3e6d26c2223852c28a0fbffef041668b00b56a4b0e171b47c7f95648f578", func := "jetsam/jetsamlaw10.NumCopies", spec := "numCopies", apart := false }
def NumCopiesSaid : Prop := numCopiesRow.holds Try.pinned (OpenSpec.ofChange numCopiesSpec)

/-- ITS FALSE NEIGHBOUR: 'it returns false'. Refute it at one input. -/
def numCopiesWrong : ChangeSpec := { name := "numCopies", fn := fun _ => fun
  | [d1, d2, d3] => { results := [.lit (.bool false)], args := [d1, d2, d3] }
  | _ => none }
def NumCopiesWrongFalsely : Prop := numCopiesRow.holds Try.pinned (OpenSpec.ofChange numCopiesWrong)

/-- 'jetsamlaw10.NumSets': WHATEVER THE INPUT: true; the input reads as it did. -/
def numSetsSpec : ChangeSpec := { name := "numSets", fn := fun _ => fun
  | [d1, d2, d3] => { results := [.lit (.bool true)], args := [d1, d2, d3] }
  | _ => none }
def numSetsRow : OpenClaim := { program := "ytefdfggkhnahiaa", sum := "bb4f3e6d26c2223852c28a0fbffef041668b00b56a4b0e171b47c7f95648f578", func := "jetsam/jetsamlaw10.NumSets", spec := "numSets", apart := false }
def NumSetsSaid : Prop := numSetsRow.holds Try.pinned (OpenSpec.ofChange numSetsSpec)

/-- ITS FALSE NEIGHBOUR: 'it returns false'. Refute it at one input. -/
def numSetsWrong : ChangeSpec := { name := "numSets", fn := fun _ => fun
  | [d1, d2, d3] => { results := [.lit (.bool false)], args := [d1, d2, d3] }
  | _ => none }
def NumSetsWrongFalsely : Prop := numSetsRow.holds Try.pinned (OpenSpec.ofChange numSetsWrong)

/-- 'jetsamlaw10.NumBounds': WHATEVER THE INPUT: true; the input reads as it did. -/
def numBoundsSpec : ChangeSpec := { name := "numBounds", fn := fun _ => fun
  | [d1, d2, d3] => { results := [.lit (.bool true)], args := [d1, d2, d3] }
  | _ => none }
def numBoundsRow : OpenClaim := { program := "ytefdfggkhnahiaa", sum := "bb4f3e6d26c2223852c28a0fbffef041668b00b56a4b0e171b47c7f95648f578", func := "jetsam/jetsamlaw10.NumBounds", spec := "numBounds", apart := false }
def NumBoundsSaid : Prop := numBoundsRow.holds Try.pinned (OpenSpec.ofChange numBoundsSpec)

/-- ITS FALSE NEIGHBOUR: 'it returns false'. Refute it at one input. -/
def numBoundsWrong : ChangeSpec := { name := "numBounds", fn := fun _ => fun
  | [d1, d2, d3] => { results := [.lit (.bool false)], args := [d1, d2, d3] }
  | _ => none }
def NumBoundsWrongFalsely : Prop := numBoundsRow.holds Try.pinned (OpenSpec.ofChange numBoundsWrong)

/-- 'jetsamtop.JetsamNumbers': WHATEVER THE INPUT: true; the input reads as it did. -/
def jetsamNumbersSpec : ChangeSpec := { name := "jetsamNumbers", fn := fun _ => fun
  | [d1, d2, d3] => { results := [.lit (.bool true)], args := [d1, d2, d3] }
  | _ => none }
def jetsamNumbersRow : OpenClaim := { program := "ytefdfggkhnahiaa", sum := "bb4f3e6d26c2223852c28a0fbffef041668b00b56a4b0e171b47c7f95648f578", func := "jetsam/jetsamtop.JetsamNumbers", spec := "jetsamNumbers", apart := false }
def JetsamNumbersSaid : Prop := jetsamNumbersRow.holds Try.pinned (OpenSpec.ofChange jetsamNumbersSpec)

/-- ITS FALSE NEIGHBOUR: 'it returns false'. Refute it at one input. -/
def jetsamNumbersWrong : ChangeSpec := { name := "jetsamNumbers", fn := fun _ => fun
  | [d1, d2, d3] => { results := [.lit (.bool false)], args := [d1, d2, d3] }
  | _ => none }
def JetsamNumbersWrongFalsely : Prop := jetsamNumbersRow.holds Try.pinned (OpenSpec.ofChange jetsamNumbersWrong)

/- THE SECOND FORM. 'bulk': how many values and letters a reading holds, each counted each time it is reached (what is shared counts as often as it is met; a slice's spare places count too). A statement '..UptoSaid' is the law's where the arguments, and the package variables that the reading takes, are together of bulk at most 1048576: NARROWER than '..Said'. Prove '..Said' where nothing that the law and all that it calls make is longer than what came in: it says more and counts as full. Else prove '..UptoSaid'. A law counts once. -/
mutual
def uptoBulk {H : Type} : DataW H → Nat
  | .lit (.string bytes) => bytes.length + 1
  | .lit _ => 1
  | .nil => 1
  | .ptr d => uptoBulk d + 1
  | .slice elems spare => uptoBulkAll elems + uptoBulkAll spare + 1
  | .agg parts => uptoBulkAll parts + 1
  | .iface _ d => uptoBulk d + 1
  | .map entries => uptoBulkEntries entries + 1
  | .held _ => 1
def uptoBulkAll {H : Type} : List (DataW H) → Nat
  | [] => 0
  | d :: r => uptoBulk d + uptoBulkAll r
def uptoBulkEntries {H : Type} : List (Lit × DataW H) → Nat
  | [] => 0
  | x :: r => uptoBulkEntry x + uptoBulkEntries r
def uptoBulkEntry {H : Type} : Lit × DataW H → Nat
  | (.string bytes, d) => bytes.length + uptoBulk d + 1
  | (_, d) => uptoBulk d + 1
 end
def uptoSmall : (H : Type) → List (DataW H) → Bool := fun _ ds => decide (uptoBulkAll ds ≤ 1048576)
def OpenSpec.upto (s : _root_.Go.ChangeSpec) : _root_.Go.OpenSpec := { _root_.Go.OpenSpec.ofChange s with cond := some uptoSmall }

/-- 'jetsamlaw10.NumActs', WHERE WHAT IT READS IS OF BULK AT MOST 1048576: true; the input reads as it did. -/
def numActsUptoRow : OpenClaim := { program := "ytefdfggkhnahiaa", sum := "bb4f3e6d26c2223852c28a0fbffef041668b00b56a4b0e171b47c7f95648f578", func := "jetsam/jetsamlaw10.NumActs", spec := "numActs", apart := false, narrowed := true }
def NumActsUptoSaid : Prop := numActsUptoRow.holds Try.pinned (OpenSpec.upto numActsSpec)

/-- 'jetsamlaw10.NumJoins', WHERE WHAT IT READS IS OF BULK AT MOST 1048576: true; the input reads as it did. -/
def numJoinsUptoRow : OpenClaim := { program := "ytefdfggkhnahiaa", sum := "bb4f3e6d26c2223852c28a0fbffef041668b00b56a4b0e171b47c7f95648f578", func := "jetsam/jetsamlaw10.NumJoins", spec := "numJoins", apart := false, narrowed := true }
def NumJoinsUptoSaid : Prop := numJoinsUptoRow.holds Try.pinned (OpenSpec.upto numJoinsSpec)

/-- 'jetsamlaw10.NumHas', WHERE WHAT IT READS IS OF BULK AT MOST 1048576: true; the input reads as it did. -/
def numHasUptoRow : OpenClaim := { program := "ytefdfggkhnahiaa", sum := "bb4f3e6d26c2223852c28a0fbffef041668b00b56a4b0e171b47c7f95648f578", func := "jetsam/jetsamlaw10.NumHas", spec := "numHas", apart := false, narrowed := true }
def NumHasUptoSaid : Prop := numHasUptoRow.holds Try.pinned (OpenSpec.upto numHasSpec)

/-- 'jetsamlaw10.NumNobody', WHERE WHAT IT READS IS OF BULK AT MOST 1048576: true; the input reads as it did. -/
def numNobodyUptoRow : OpenClaim := { program := "ytefdfggkhnahiaa", sum := "bb4f3e6d26c2223852c28a0fbffef041668b00b56a4b0e171b47c7f95648f578", func := "jetsam/jetsamlaw10.NumNobody", spec := "numNobody", apart := false, narrowed := true }
def NumNobodyUptoSaid : Prop := numNobodyUptoRow.holds Try.pinned (OpenSpec.upto numNobodySpec)

/-- 'jetsamlaw10.NumCopies', WHERE WHAT IT READS IS OF BULK AT MOST 1048576: true; the input reads as it did. -/
def numCopiesUptoRow : OpenClaim := { program := "ytefdfggkhnahiaa", sum := "bb4f3e6d26c2223852c28a0fbffef041668b00b56a4b0e171b47c7f95648f578", func := "jetsam/jetsamlaw10.NumCopies", spec := "numCopies", apart := false, narrowed := true }
def NumCopiesUptoSaid : Prop := numCopiesUptoRow.holds Try.pinned (OpenSpec.upto numCopiesSpec)

/-- 'jetsamlaw10.NumSets', WHERE WHAT IT READS IS OF BULK AT MOST 1048576: true; the input reads as it did. -/
def numSetsUptoRow : OpenClaim := { program := "ytefdfggkhnahiaa", sum := "bb4f3e6d26c2223852c28a0fbffef041668b00b56a4b0e171b47c7f95648f578", func := "jetsam/jetsamlaw10.NumSets", spec := "numSets", apart := false, narrowed := true }
def NumSetsUptoSaid : Prop := numSetsUptoRow.holds Try.pinned (OpenSpec.upto numSetsSpec)

/-- 'jetsamlaw10.NumBounds', WHERE WHAT IT READS IS OF BULK AT MOST 1048576: true; the input reads as it did. -/
def numBoundsUptoRow : OpenClaim := { program := "ytefdfggkhnahiaa", sum := "bb4f3e6d26c2223852c28a0fbffef041668b00b56a4b0e171b47c7f95648f578", func := "jetsam/jetsamlaw10.NumBounds", spec := "numBounds", apart := false, narrowed := true }
def NumBoundsUptoSaid : Prop := numBoundsUptoRow.holds Try.pinned (OpenSpec.upto numBoundsSpec)

/-- 'jetsamtop.JetsamNumbers', WHERE WHAT IT READS IS OF BULK AT MOST 1048576: true; the input reads as it did. -/
def jetsamNumbersUptoRow : OpenClaim := { program := "ytefdfggkhnahiaa", sum := "bb4f3e6d26c2223852c28a0fbffef041668b00b56a4b0e171b47c7f95648f578", func := "jetsam/jetsamtop.JetsamNumbers", spec := "jetsamNumbers", apart := false, narrowed := true }
def JetsamNumbersUptoSaid : Prop := jetsamNumbersUptoRow.holds Try.pinned (OpenSpec.upto jetsamNumbersSpec)

end Rows
end Go.Proofs.Ytefdfggkhnahiaa
