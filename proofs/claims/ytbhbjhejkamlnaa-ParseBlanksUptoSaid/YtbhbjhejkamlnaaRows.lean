/-
  NARROWER THAN 'FOR EVERY INPUT', by the rows' own cells (each row's printed sentence says how): ParseBlanks: loops.
  DERIVED. THE GIVEN ROWS OF THIS SEAT. 4 by the template 'for every input the law returns true; each argument reads behind the call as it read before'; 0 by the template 'total and deterministic' (their statements: YtbhbjhejkamlnaaTotals.lean).
  GIVEN WITH THE SEED: the statements are not yours to turn. If you find one false, say at which input.
  Laid BY PROGRAM, IN A SANDBOX (cutbox-rows.mjs): the forced cells as the released guide's own fill.sh prints them over the translation f5659903607bd7f6… (all of the seat's roots in one cut). By AI agents, Wed Nov 11 2026. No macro, syntax, notation, axiom, sorry.
-/
import Derived.Test.YtbhbjhejkamlnaaChecked
import GoSem.Claim
import GoSem.ClaimJoined
import GoSem.ClaimMapViews
import Derived.JoinedTies
import Derived.KernelRfl
namespace Go.Proofs.Ytbhbjhejkamlnaa
/- THE CELL 'sum', in the pinned program and in every row, IS THE sha256 OF THE DUMP (.gsa) THAT YtbhbjhejkamlnaaProg.lean LOADS. Nothing in Lean hashes anything: it is a label: what it is worth is what the hold of that sum in a sandbox is worth. -/
noncomputable def Try.pinned : Pinned := { name := "ytbhbjhejkamlnaa", sum := "f5659903607bd7f6ef36fd6d9af8acbe133c7ee3e4776a054b4ace9fb4b7a558", checked := Try.checked }
namespace Rows
def none {H : Type} : Left H := { results := [], args := [] }

/-- 'jetsamlaw03.ParseReads': WHATEVER THE INPUT: true; the input reads as it did. -/
def parseReadsSpec : ChangeSpec := { name := "parseReads", fn := fun _ => fun
  | [d] => { results := [.lit (.bool true)], args := [d] }
  | _ => none }
def parseReadsRow : OpenClaim := { program := "ytbhbjhejkamlnaa", sum := "f5659903607bd7f6ef36fd6d9af8acbe133c7ee3e4776a054b4ace9fb4b7a558", func := "jetsam/jetsamlaw03.ParseReads", spec := "parseReads", unfollowed := true, recurses := true, apart := false }
def ParseReadsSaid : Prop := parseReadsRow.holds Try.pinned (OpenSpec.ofChange parseReadsSpec)

/-- ITS FALSE NEIGHBOUR: 'it returns false'. Refute it at one input. -/
def parseReadsWrong : ChangeSpec := { name := "parseReads", fn := fun _ => fun
  | [d] => { results := [.lit (.bool false)], args := [d] }
  | _ => none }
def ParseReadsWrongFalsely : Prop := parseReadsRow.holds Try.pinned (OpenSpec.ofChange parseReadsWrong)

/-- 'jetsamlaw03.ParseLefts': WHATEVER THE INPUT: true; the input reads as it did. -/
def parseLeftsSpec : ChangeSpec := { name := "parseLefts", fn := fun _ => fun
  | [d1, d2] => { results := [.lit (.bool true)], args := [d1, d2] }
  | _ => none }
def parseLeftsRow : OpenClaim := { program := "ytbhbjhejkamlnaa", sum := "f5659903607bd7f6ef36fd6d9af8acbe133c7ee3e4776a054b4ace9fb4b7a558", func := "jetsam/jetsamlaw03.ParseLefts", spec := "parseLefts", unfollowed := true, recurses := true, apart := false }
def ParseLeftsSaid : Prop := parseLeftsRow.holds Try.pinned (OpenSpec.ofChange parseLeftsSpec)

/-- ITS FALSE NEIGHBOUR: 'it returns false'. Refute it at one input. -/
def parseLeftsWrong : ChangeSpec := { name := "parseLefts", fn := fun _ => fun
  | [d1, d2] => { results := [.lit (.bool false)], args := [d1, d2] }
  | _ => none }
def ParseLeftsWrongFalsely : Prop := parseLeftsRow.holds Try.pinned (OpenSpec.ofChange parseLeftsWrong)

/-- 'jetsamlaw03.ParseDeeps': WHATEVER THE INPUT: true; the input reads as it did. -/
def parseDeepsSpec : ChangeSpec := { name := "parseDeeps", fn := fun _ => fun
  | [d1, d2] => { results := [.lit (.bool true)], args := [d1, d2] }
  | _ => none }
def parseDeepsRow : OpenClaim := { program := "ytbhbjhejkamlnaa", sum := "f5659903607bd7f6ef36fd6d9af8acbe133c7ee3e4776a054b4ace9fb4b7a558", func := "jetsam/jetsamlaw03.ParseDeeps", spec := "parseDeeps", unfollowed := true, recurses := true, apart := false }
def ParseDeepsSaid : Prop := parseDeepsRow.holds Try.pinned (OpenSpec.ofChange parseDeepsSpec)

/-- ITS FALSE NEIGHBOUR: 'it returns false'. Refute it at one input. -/
def parseDeepsWrong : ChangeSpec := { name := "parseDeeps", fn := fun _ => fun
  | [d1, d2] => { results := [.lit (.bool false)], args := [d1, d2] }
  | _ => none }
def ParseDeepsWrongFalsely : Prop := parseDeepsRow.holds Try.pinned (OpenSpec.ofChange parseDeepsWrong)

/-- 'jetsamlaw03.ParseBlanks': WHATEVER THE INPUT: true; the input reads as it did. -/
def parseBlanksSpec : ChangeSpec := { name := "parseBlanks", fn := fun _ => fun
  | [d1, d2] => { results := [.lit (.bool true)], args := [d1, d2] }
  | _ => none }
def parseBlanksRow : OpenClaim := { program := "ytbhbjhejkamlnaa", sum := "f5659903607bd7f6ef36fd6d9af8acbe133c7ee3e4776a054b4ace9fb4b7a558", func := "jetsam/jetsamlaw03.ParseBlanks", spec := "parseBlanks", unfollowed := true, recurses := true, loops := true, apart := false }
def ParseBlanksSaid : Prop := parseBlanksRow.holds Try.pinned (OpenSpec.ofChange parseBlanksSpec)

/-- ITS FALSE NEIGHBOUR: 'it returns false'. Refute it at one input. -/
def parseBlanksWrong : ChangeSpec := { name := "parseBlanks", fn := fun _ => fun
  | [d1, d2] => { results := [.lit (.bool false)], args := [d1, d2] }
  | _ => none }
def ParseBlanksWrongFalsely : Prop := parseBlanksRow.holds Try.pinned (OpenSpec.ofChange parseBlanksWrong)

/- THE SECOND FORM. 'bulk': how many values and letters a reading holds, each counted each time it is reached (what is shared counts as often as it is met; a slice's spare places count too). A statement '..UptoSaid' is the law's where the arguments, and the package variables that the reading takes, are together of bulk at most 1048576: NARROWER than '..Said'. Prove '..Said' where nothing that the law and all that it calls make is longer than what came in: it says more and counts as full. Else prove '..UptoSaid'. A law counts once. -/
mutual
def uptoBulk {H : Type} : DataW H → Nat
  | .lit (.string bytes) => bytes.length + 1
  | .lit _ => 1
  | .nil => 1
  | .ptr d => uptoBulk d + 1
  | .slice elems spare => uptoBulkAll elems + uptoBulkAll spare + 1
  | .agg parts => uptoBulkAll parts + 1
  | .iface _ d => uptoBulk d + 1
  | .map entries => uptoBulkEntries entries + 1
  | .held _ => 1
def uptoBulkAll {H : Type} : List (DataW H) → Nat
  | [] => 0
  | d :: r => uptoBulk d + uptoBulkAll r
def uptoBulkEntries {H : Type} : List (Lit × DataW H) → Nat
  | [] => 0
  | x :: r => uptoBulkEntry x + uptoBulkEntries r
def uptoBulkEntry {H : Type} : Lit × DataW H → Nat
  | (.string bytes, d) => bytes.length + uptoBulk d + 1
  | (_, d) => uptoBulk d + 1
 end
def uptoSmall : (H : Type) → List (DataW H) → Bool := fun _ ds => decide (uptoBulkAll ds ≤ 1048576)
def OpenSpec.upto (s : _root_.Go.ChangeSpec) : _root_.Go.OpenSpec := { _root_.Go.OpenSpec.ofChange s with cond := some uptoSmall }

/-- 'jetsamlaw03.ParseReads', WHERE WHAT IT READS IS OF BULK AT MOST 1048576: true; the input reads as it did. -/
def parseReadsUptoRow : OpenClaim := { program := "ytbhbjhejkamlnaa", sum := "f5659903607bd7f6ef36fd6d9af8acbe133c7ee3e4776a054b4ace9fb4b7a558", func := "jetsam/jetsamlaw03.ParseReads", spec := "parseReads", unfollowed := true, recurses := true, apart := false, narrowed := true }
def ParseReadsUptoSaid : Prop := parseReadsUptoRow.holds Try.pinned (OpenSpec.upto parseReadsSpec)

/-- 'jetsamlaw03.ParseLefts', WHERE WHAT IT READS IS OF BULK AT MOST 1048576: true; the input reads as it did. -/
def parseLeftsUptoRow : OpenClaim := { program := "ytbhbjhejkamlnaa", sum := "f5659903607bd7f6ef36fd6d9af8acbe133c7ee3e4776a054b4ace9fb4b7a558", func := "jetsam/jetsamlaw03.ParseLefts", spec := "parseLefts", unfollowed := true, recurses := true, apart := false, narrowed := true }
def ParseLeftsUptoSaid : Prop := parseLeftsUptoRow.holds Try.pinned (OpenSpec.upto parseLeftsSpec)

/-- 'jetsamlaw03.ParseDeeps', WHERE WHAT IT READS IS OF BULK AT MOST 1048576: true; the input reads as it did. -/
def parseDeepsUptoRow : OpenClaim := { program := "ytbhbjhejkamlnaa", sum := "f5659903607bd7f6ef36fd6d9af8acbe133c7ee3e4776a054b4ace9fb4b7a558", func := "jetsam/jetsamlaw03.ParseDeeps", spec := "parseDeeps", unfollowed := true, recurses := true, apart := false, narrowed := true }
def ParseDeepsUptoSaid : Prop := parseDeepsUptoRow.holds Try.pinned (OpenSpec.upto parseDeepsSpec)

/-- 'jetsamlaw03.ParseBlanks', WHERE WHAT IT READS IS OF BULK AT MOST 1048576: true; the input reads as it did. -/
def parseBlanksUptoRow : OpenClaim := { program := "ytbhbjhejkamlnaa", sum := "f5659903607bd7f6ef36fd6d9af8acbe133c7ee3e4776a054b4ace9fb4b7a558", func := "jetsam/jetsamlaw03.ParseBlanks", spec := "parseBlanks", unfollowed := true, recurses := true, loops := true, apart := false, narrowed := true }
def ParseBlanksUptoSaid : Prop := parseBlanksUptoRow.holds Try.pinned (OpenSpec.upto parseBlanksSpec)

end Rows
end Go.Proofs.Ytbhbjhejkamlnaa
