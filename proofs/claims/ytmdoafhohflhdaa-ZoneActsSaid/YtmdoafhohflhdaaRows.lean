/-
  No cell of these rows narrows 'for every input' (looked for: loops, veiled, ifaces, maps, wideKeys, modest, calm, conditions, laid).
  DERIVED. THE GIVEN ROWS OF THIS SEAT. 9 by the template 'for every input the law returns true; each argument reads behind the call as it read before'; 0 by the template 'total and deterministic' (their statements: YtmdoafhohflhdaaTotals.lean).
  GIVEN WITH THE SEED: the statements are not yours to turn. If you find one false, say at which input.
  Laid BY PROGRAM, IN A SANDBOX (cutbox-rows.mjs): the forced cells as the released guide's own fill.sh prints them over the translation 7bc940e470d9f391… (all of the seat's roots in one cut). By AI agents, Wed Nov 11 2026. No macro, syntax, notation, axiom, sorry.
-/
import Derived.Test.YtmdoafhohflhdaaChecked
import GoSem.Claim
import GoSem.ClaimJoined
import GoSem.ClaimMapViews
import Derived.JoinedTies
import Derived.KernelRfl
namespace Go.Proofs.Ytmdoafhohflhdaa
/- THE CELL 'sum', in the pinned program and in every row, IS THE sha256 OF THE DUMP (.gsa) THAT YtmdoafhohflhdaaProg.lean LOADS. Nothing in Lean hashes anything: it is a label: what it is worth is what the hold of that sum in a sandbox is worth. -/
noncomputable def Try.pinned : Pinned := { name := "ytmdoafhohflhdaa", sum := "7bc940e470d9f3916c024cefdeef0ad7eb656b643b40734133186fdb663e4630", checked := Try.checked }
namespace Rows
def none {H : Type} : Left H := { results := [], args := [] }

/-- 'jetsamlaw09.ZoneActs': WHATEVER THE INPUT: true; the input reads as it did. -/
def zoneActsSpec : ChangeSpec := { name := "zoneActs", fn := fun _ => fun
  | [d1, d2, d3] => { results := [.lit (.bool true)], args := [d1, d2, d3] }
  | _ => none }
def zoneActsRow : OpenClaim := { program := "ytmdoafhohflhdaa", sum := "7bc940e470d9f3916c024cefdeef0ad7eb656b643b40734133186fdb663e4630", func := "jetsam/jetsamlaw09.ZoneActs", spec := "zoneActs", apart := false }
def ZoneActsSaid : Prop := zoneActsRow.holds Try.pinned (OpenSpec.ofChange zoneActsSpec)

/-- ITS FALSE NEIGHBOUR: 'it returns false'. Refute it at one input. -/
def zoneActsWrong : ChangeSpec := { name := "zoneActs", fn := fun _ => fun
  | [d1, d2, d3] => { results := [.lit (.bool false)], args := [d1, d2, d3] }
  | _ => none }
def ZoneActsWrongFalsely : Prop := zoneActsRow.holds Try.pinned (OpenSpec.ofChange zoneActsWrong)

/-- 'jetsamlaw09.ZoneHas': WHATEVER THE INPUT: true; the input reads as it did. -/
def zoneHasSpec : ChangeSpec := { name := "zoneHas", fn := fun _ => fun
  | [d1, d2, d3] => { results := [.lit (.bool true)], args := [d1, d2, d3] }
  | _ => none }
def zoneHasRow : OpenClaim := { program := "ytmdoafhohflhdaa", sum := "7bc940e470d9f3916c024cefdeef0ad7eb656b643b40734133186fdb663e4630", func := "jetsam/jetsamlaw09.ZoneHas", spec := "zoneHas", apart := false }
def ZoneHasSaid : Prop := zoneHasRow.holds Try.pinned (OpenSpec.ofChange zoneHasSpec)

/-- ITS FALSE NEIGHBOUR: 'it returns false'. Refute it at one input. -/
def zoneHasWrong : ChangeSpec := { name := "zoneHas", fn := fun _ => fun
  | [d1, d2, d3] => { results := [.lit (.bool false)], args := [d1, d2, d3] }
  | _ => none }
def ZoneHasWrongFalsely : Prop := zoneHasRow.holds Try.pinned (OpenSpec.ofChange zoneHasWrong)

/-- 'jetsamlaw09.ZoneJoins': WHATEVER THE INPUT: true; the input reads as it did. -/
def zoneJoinsSpec : ChangeSpec := { name := "zoneJoins", fn := fun _ => fun
  | [d1, d2, d3] => { results := [.lit (.bool true)], args := [d1, d2, d3] }
  | _ => none }
def zoneJoinsRow : OpenClaim := { program := "ytmdoafhohflhdaa", sum := "7bc940e470d9f3916c024cefdeef0ad7eb656b643b40734133186fdb663e4630", func := "jetsam/jetsamlaw09.ZoneJoins", spec := "zoneJoins", apart := false }
def ZoneJoinsSaid : Prop := zoneJoinsRow.holds Try.pinned (OpenSpec.ofChange zoneJoinsSpec)

/-- ITS FALSE NEIGHBOUR: 'it returns false'. Refute it at one input. -/
def zoneJoinsWrong : ChangeSpec := { name := "zoneJoins", fn := fun _ => fun
  | [d1, d2, d3] => { results := [.lit (.bool false)], args := [d1, d2, d3] }
  | _ => none }
def ZoneJoinsWrongFalsely : Prop := zoneJoinsRow.holds Try.pinned (OpenSpec.ofChange zoneJoinsWrong)

/-- 'jetsamlaw09.ZoneWidens': WHATEVER THE INPUT: true; the input reads as it did. -/
def zoneWidensSpec : ChangeSpec := { name := "zoneWidens", fn := fun _ => fun
  | [d1, d2] => { results := [.lit (.bool true)], args := [d1, d2] }
  | _ => none }
def zoneWidensRow : OpenClaim := { program := "ytmdoafhohflhdaa", sum := "7bc940e470d9f3916c024cefdeef0ad7eb656b643b40734133186fdb663e4630", func := "jetsam/jetsamlaw09.ZoneWidens", spec := "zoneWidens", apart := false }
def ZoneWidensSaid : Prop := zoneWidensRow.holds Try.pinned (OpenSpec.ofChange zoneWidensSpec)

/-- ITS FALSE NEIGHBOUR: 'it returns false'. Refute it at one input. -/
def zoneWidensWrong : ChangeSpec := { name := "zoneWidens", fn := fun _ => fun
  | [d1, d2] => { results := [.lit (.bool false)], args := [d1, d2] }
  | _ => none }
def ZoneWidensWrongFalsely : Prop := zoneWidensRow.holds Try.pinned (OpenSpec.ofChange zoneWidensWrong)

/-- 'jetsamlaw09.ZoneNobody': WHATEVER THE INPUT: true; the input reads as it did. -/
def zoneNobodySpec : ChangeSpec := { name := "zoneNobody", fn := fun _ => fun
  | [d1, d2, d3] => { results := [.lit (.bool true)], args := [d1, d2, d3] }
  | _ => none }
def zoneNobodyRow : OpenClaim := { program := "ytmdoafhohflhdaa", sum := "7bc940e470d9f3916c024cefdeef0ad7eb656b643b40734133186fdb663e4630", func := "jetsam/jetsamlaw09.ZoneNobody", spec := "zoneNobody", apart := false }
def ZoneNobodySaid : Prop := zoneNobodyRow.holds Try.pinned (OpenSpec.ofChange zoneNobodySpec)

/-- ITS FALSE NEIGHBOUR: 'it returns false'. Refute it at one input. -/
def zoneNobodyWrong : ChangeSpec := { name := "zoneNobody", fn := fun _ => fun
  | [d1, d2, d3] => { results := [.lit (.bool false)], args := [d1, d2, d3] }
  | _ => none }
def ZoneNobodyWrongFalsely : Prop := zoneNobodyRow.holds Try.pinned (OpenSpec.ofChange zoneNobodyWrong)

/-- 'jetsamlaw09.ZoneChains': WHATEVER THE INPUT: true; the input reads as it did. -/
def zoneChainsSpec : ChangeSpec := { name := "zoneChains", fn := fun _ => fun
  | [d1, d2] => { results := [.lit (.bool true)], args := [d1, d2] }
  | _ => none }
def zoneChainsRow : OpenClaim := { program := "ytmdoafhohflhdaa", sum := "7bc940e470d9f3916c024cefdeef0ad7eb656b643b40734133186fdb663e4630", func := "jetsam/jetsamlaw09.ZoneChains", spec := "zoneChains", apart := false }
def ZoneChainsSaid : Prop := zoneChainsRow.holds Try.pinned (OpenSpec.ofChange zoneChainsSpec)

/-- ITS FALSE NEIGHBOUR: 'it returns false'. Refute it at one input. -/
def zoneChainsWrong : ChangeSpec := { name := "zoneChains", fn := fun _ => fun
  | [d1, d2] => { results := [.lit (.bool false)], args := [d1, d2] }
  | _ => none }
def ZoneChainsWrongFalsely : Prop := zoneChainsRow.holds Try.pinned (OpenSpec.ofChange zoneChainsWrong)

/-- 'jetsamlaw09.ZoneNones': WHATEVER THE INPUT: true; the input reads as it did. -/
def zoneNonesSpec : ChangeSpec := { name := "zoneNones", fn := fun _ => fun
  | [d1, d2, d3] => { results := [.lit (.bool true)], args := [d1, d2, d3] }
  | _ => none }
def zoneNonesRow : OpenClaim := { program := "ytmdoafhohflhdaa", sum := "7bc940e470d9f3916c024cefdeef0ad7eb656b643b40734133186fdb663e4630", func := "jetsam/jetsamlaw09.ZoneNones", spec := "zoneNones", apart := false }
def ZoneNonesSaid : Prop := zoneNonesRow.holds Try.pinned (OpenSpec.ofChange zoneNonesSpec)

/-- ITS FALSE NEIGHBOUR: 'it returns false'. Refute it at one input. -/
def zoneNonesWrong : ChangeSpec := { name := "zoneNones", fn := fun _ => fun
  | [d1, d2, d3] => { results := [.lit (.bool false)], args := [d1, d2, d3] }
  | _ => none }
def ZoneNonesWrongFalsely : Prop := zoneNonesRow.holds Try.pinned (OpenSpec.ofChange zoneNonesWrong)

/-- 'jetsamlaw09.ZoneOrders': WHATEVER THE INPUT: true; the input reads as it did. -/
def zoneOrdersSpec : ChangeSpec := { name := "zoneOrders", fn := fun _ => fun
  | [d1, d2, d3] => { results := [.lit (.bool true)], args := [d1, d2, d3] }
  | _ => none }
def zoneOrdersRow : OpenClaim := { program := "ytmdoafhohflhdaa", sum := "7bc940e470d9f3916c024cefdeef0ad7eb656b643b40734133186fdb663e4630", func := "jetsam/jetsamlaw09.ZoneOrders", spec := "zoneOrders", apart := false }
def ZoneOrdersSaid : Prop := zoneOrdersRow.holds Try.pinned (OpenSpec.ofChange zoneOrdersSpec)

/-- ITS FALSE NEIGHBOUR: 'it returns false'. Refute it at one input. -/
def zoneOrdersWrong : ChangeSpec := { name := "zoneOrders", fn := fun _ => fun
  | [d1, d2, d3] => { results := [.lit (.bool false)], args := [d1, d2, d3] }
  | _ => none }
def ZoneOrdersWrongFalsely : Prop := zoneOrdersRow.holds Try.pinned (OpenSpec.ofChange zoneOrdersWrong)

/-- 'jetsamlaw09.ZoneForgets': WHATEVER THE INPUT: true; the input reads as it did. -/
def zoneForgetsSpec : ChangeSpec := { name := "zoneForgets", fn := fun _ => fun
  | [d1, d2] => { results := [.lit (.bool true)], args := [d1, d2] }
  | _ => none }
def zoneForgetsRow : OpenClaim := { program := "ytmdoafhohflhdaa", sum := "7bc940e470d9f3916c024cefdeef0ad7eb656b643b40734133186fdb663e4630", func := "jetsam/jetsamlaw09.ZoneForgets", spec := "zoneForgets", apart := false }
def ZoneForgetsSaid : Prop := zoneForgetsRow.holds Try.pinned (OpenSpec.ofChange zoneForgetsSpec)

/-- ITS FALSE NEIGHBOUR: 'it returns false'. Refute it at one input. -/
def zoneForgetsWrong : ChangeSpec := { name := "zoneForgets", fn := fun _ => fun
  | [d1, d2] => { results := [.lit (.bool false)], args := [d1, d2] }
  | _ => none }
def ZoneForgetsWrongFalsely : Prop := zoneForgetsRow.holds Try.pinned (OpenSpec.ofChange zoneForgetsWrong)

/- THE SECOND FORM. 'bulk': how many values and letters a reading holds, each counted each time it is reached (what is shared counts as often as it is met; a slice's spare places count too). A statement '..UptoSaid' is the law's where the arguments, and the package variables that the reading takes, are together of bulk at most 1048576: NARROWER than '..Said'. Prove '..Said' where nothing that the law and all that it calls make is longer than what came in: it says more and counts as full. Else prove '..UptoSaid'. A law counts once. -/
mutual
def uptoBulk {H : Type} : DataW H → Nat
  | .lit (.string bytes) => bytes.length + 1
  | .lit _ => 1
  | .nil => 1
  | .ptr d => uptoBulk d + 1
  | .slice elems spare => uptoBulkAll elems + uptoBulkAll spare + 1
  | .agg parts => uptoBulkAll parts + 1
  | .iface _ d => uptoBulk d + 1
  | .map entries => uptoBulkEntries entries + 1
  | .held _ => 1
def uptoBulkAll {H : Type} : List (DataW H) → Nat
  | [] => 0
  | d :: r => uptoBulk d + uptoBulkAll r
def uptoBulkEntries {H : Type} : List (Lit × DataW H) → Nat
  | [] => 0
  | x :: r => uptoBulkEntry x + uptoBulkEntries r
def uptoBulkEntry {H : Type} : Lit × DataW H → Nat
  | (.string bytes, d) => bytes.length + uptoBulk d + 1
  | (_, d) => uptoBulk d + 1
 end
def uptoSmall : (H : Type) → List (DataW H) → Bool := fun _ ds => decide (uptoBulkAll ds ≤ 1048576)
def OpenSpec.upto (s : _root_.Go.ChangeSpec) : _root_.Go.OpenSpec := { _root_.Go.OpenSpec.ofChange s with cond := some uptoSmall }

/-- 'jetsamlaw09.ZoneActs', WHERE WHAT IT READS IS OF BULK AT MOST 1048576: true; the input reads as it did. -/
def zoneActsUptoRow : OpenClaim := { program := "ytmdoafhohflhdaa", sum := "7bc940e470d9f3916c024cefdeef0ad7eb656b643b40734133186fdb663e4630", func := "jetsam/jetsamlaw09.ZoneActs", spec := "zoneActs", apart := false, narrowed := true }
def ZoneActsUptoSaid : Prop := zoneActsUptoRow.holds Try.pinned (OpenSpec.upto zoneActsSpec)

/-- 'jetsamlaw09.ZoneHas', WHERE WHAT IT READS IS OF BULK AT MOST 1048576: true; the input reads as it did. -/
def zoneHasUptoRow : OpenClaim := { program := "ytmdoafhohflhdaa", sum := "7bc940e470d9f3916c024cefdeef0ad7eb656b643b40734133186fdb663e4630", func := "jetsam/jetsamlaw09.ZoneHas", spec := "zoneHas", apart := false, narrowed := true }
def ZoneHasUptoSaid : Prop := zoneHasUptoRow.holds Try.pinned (OpenSpec.upto zoneHasSpec)

/-- 'jetsamlaw09.ZoneJoins', WHERE WHAT IT READS IS OF BULK AT MOST 1048576: true; the input reads as it did. -/
def zoneJoinsUptoRow : OpenClaim := { program := "ytmdoafhohflhdaa", sum := "7bc940e470d9f3916c024cefdeef0ad7eb656b643b40734133186fdb663e4630", func := "jetsam/jetsamlaw09.ZoneJoins", spec := "zoneJoins", apart := false, narrowed := true }
def ZoneJoinsUptoSaid : Prop := zoneJoinsUptoRow.holds Try.pinned (OpenSpec.upto zoneJoinsSpec)

/-- 'jetsamlaw09.ZoneWidens', WHERE WHAT IT READS IS OF BULK AT MOST 1048576: true; the input reads as it did. -/
def zoneWidensUptoRow : OpenClaim := { program := "ytmdoafhohflhdaa", sum := "7bc940e470d9f3916c024cefdeef0ad7eb656b643b40734133186fdb663e4630", func := "jetsam/jetsamlaw09.ZoneWidens", spec := "zoneWidens", apart := false, narrowed := true }
def ZoneWidensUptoSaid : Prop := zoneWidensUptoRow.holds Try.pinned (OpenSpec.upto zoneWidensSpec)

/-- 'jetsamlaw09.ZoneNobody', WHERE WHAT IT READS IS OF BULK AT MOST 1048576: true; the input reads as it did. -/
def zoneNobodyUptoRow : OpenClaim := { program := "ytmdoafhohflhdaa", sum := "7bc940e470d9f3916c024cefdeef0ad7eb656b643b40734133186fdb663e4630", func := "jetsam/jetsamlaw09.ZoneNobody", spec := "zoneNobody", apart := false, narrowed := true }
def ZoneNobodyUptoSaid : Prop := zoneNobodyUptoRow.holds Try.pinned (OpenSpec.upto zoneNobodySpec)

/-- 'jetsamlaw09.ZoneChains', WHERE WHAT IT READS IS OF BULK AT MOST 1048576: true; the input reads as it did. -/
def zoneChainsUptoRow : OpenClaim := { program := "ytmdoafhohflhdaa", sum := "7bc940e470d9f3916c024cefdeef0ad7eb656b643b40734133186fdb663e4630", func := "jetsam/jetsamlaw09.ZoneChains", spec := "zoneChains", apart := false, narrowed := true }
def ZoneChainsUptoSaid : Prop := zoneChainsUptoRow.holds Try.pinned (OpenSpec.upto zoneChainsSpec)

/-- 'jetsamlaw09.ZoneNones', WHERE WHAT IT READS IS OF BULK AT MOST 1048576: true; the input reads as it did. -/
def zoneNonesUptoRow : OpenClaim := { program := "ytmdoafhohflhdaa", sum := "7bc940e470d9f3916c024cefdeef0ad7eb656b643b40734133186fdb663e4630", func := "jetsam/jetsamlaw09.ZoneNones", spec := "zoneNones", apart := false, narrowed := true }
def ZoneNonesUptoSaid : Prop := zoneNonesUptoRow.holds Try.pinned (OpenSpec.upto zoneNonesSpec)

/-- 'jetsamlaw09.ZoneOrders', WHERE WHAT IT READS IS OF BULK AT MOST 1048576: true; the input reads as it did. -/
def zoneOrdersUptoRow : OpenClaim := { program := "ytmdoafhohflhdaa", sum := "7bc940e470d9f3916c024cefdeef0ad7eb656b643b40734133186fdb663e4630", func := "jetsam/jetsamlaw09.ZoneOrders", spec := "zoneOrders", apart := false, narrowed := true }
def ZoneOrdersUptoSaid : Prop := zoneOrdersUptoRow.holds Try.pinned (OpenSpec.upto zoneOrdersSpec)

/-- 'jetsamlaw09.ZoneForgets', WHERE WHAT IT READS IS OF BULK AT MOST 1048576: true; the input reads as it did. -/
def zoneForgetsUptoRow : OpenClaim := { program := "ytmdoafhohflhdaa", sum := "7bc940e470d9f3916c024cefdeef0ad7eb656b643b40734133186fdb663e4630", func := "jetsam/jetsamlaw09.ZoneForgets", spec := "zoneForgets", apart := false, narrowed := true }
def ZoneForgetsUptoSaid : Prop := zoneForgetsUptoRow.holds Try.pinned (OpenSpec.upto zoneForgetsSpec)

end Rows
end Go.Proofs.Ytmdoafhohflhdaa
