/-
  No cell of these rows narrows 'for every input' (looked for: loops, veiled, ifaces, maps, wideKeys, modest, calm, conditions, laid).
  DERIVED. THE GIVEN ROWS OF THIS SEAT. 6 by the template 'for every input the law returns true; each argument reads behind the call as it read before'; 0 by the template 'total and deterministic' (their statements: YtgepaajhccadhaaTotals.lean).
  GIVEN WITH THE SEED: the statements are not yours to turn. If you find one false, say at which input.
  Laid BY PROGRAM, IN A SANDBOX (cutbox-rows.mjs): the forced cells as the released guide's own fill.sh prints them over the translation 4d71b90e16aa3592… (all of the seat's roots in one cut). By AI agents, Wed Nov 11 2026. No macro, syntax, notation, axiom, sorry.
-/
import Derived.Test.YtgepaajhccadhaaChecked
import GoSem.Claim
import GoSem.ClaimJoined
import GoSem.ClaimMapViews
import Derived.JoinedTies
import Derived.KernelRfl
namespace Go.Proofs.Ytgepaajhccadhaa
/- THE CELL 'sum', in the pinned program and in every row, IS THE sha256 OF THE DUMP (.gsa) THAT YtgepaajhccadhaaProg.lean LOADS. Nothing in Lean hashes anything: it is a label: what it is worth is what the hold of that sum in a sandbox is worth. -/
noncomputable def Try.pinned : Pinned := { name := "ytgepaajhccadhaa", sum := "4d71b90e16aa3592ef16184c6a772f9e8c31b96f8903d0b29e8ab2d5e77f120e", checked := Try.checked }
namespace Rows
def none {H : Type} : Left H := { results := [], args := [] }

/-- 'jetsamlaw11.QueueSends': WHATEVER THE INPUT: true; the input reads as it did. -/
def queueSendsSpec : ChangeSpec := { name := "queueSends", fn := fun _ => fun
  | [d1, d2, d3] => { results := [.lit (.bool true)], args := [d1, d2, d3] }
  | _ => none }
def queueSendsRow : OpenClaim := { program := "ytgepaajhccadhaa", sum := "4d71b90e16aa3592ef16184c6a772f9e8c31b96f8903d0b29e8ab2d5e77f120e", func := "jetsam/jetsamlaw11.QueueSends", spec := "queueSends", apart := false }
def QueueSendsSaid : Prop := queueSendsRow.holds Try.pinned (OpenSpec.ofChange queueSendsSpec)

/-- ITS FALSE NEIGHBOUR: 'it returns false'. Refute it at one input. -/
def queueSendsWrong : ChangeSpec := { name := "queueSends", fn := fun _ => fun
  | [d1, d2, d3] => { results := [.lit (.bool false)], args := [d1, d2, d3] }
  | _ => none }
def QueueSendsWrongFalsely : Prop := queueSendsRow.holds Try.pinned (OpenSpec.ofChange queueSendsWrong)

/-- 'jetsamlaw11.QueueHas': WHATEVER THE INPUT: true; the input reads as it did. -/
def queueHasSpec : ChangeSpec := { name := "queueHas", fn := fun _ => fun
  | [d1, d2] => { results := [.lit (.bool true)], args := [d1, d2] }
  | _ => none }
def queueHasRow : OpenClaim := { program := "ytgepaajhccadhaa", sum := "4d71b90e16aa3592ef16184c6a772f9e8c31b96f8903d0b29e8ab2d5e77f120e", func := "jetsam/jetsamlaw11.QueueHas", spec := "queueHas", apart := false }
def QueueHasSaid : Prop := queueHasRow.holds Try.pinned (OpenSpec.ofChange queueHasSpec)

/-- ITS FALSE NEIGHBOUR: 'it returns false'. Refute it at one input. -/
def queueHasWrong : ChangeSpec := { name := "queueHas", fn := fun _ => fun
  | [d1, d2] => { results := [.lit (.bool false)], args := [d1, d2] }
  | _ => none }
def QueueHasWrongFalsely : Prop := queueHasRow.holds Try.pinned (OpenSpec.ofChange queueHasWrong)

/-- 'jetsamlaw11.QueueTwo': WHATEVER THE INPUT: true; the input reads as it did. -/
def queueTwoSpec : ChangeSpec := { name := "queueTwo", fn := fun _ => fun
  | [d1, d2, d3] => { results := [.lit (.bool true)], args := [d1, d2, d3] }
  | _ => none }
def queueTwoRow : OpenClaim := { program := "ytgepaajhccadhaa", sum := "4d71b90e16aa3592ef16184c6a772f9e8c31b96f8903d0b29e8ab2d5e77f120e", func := "jetsam/jetsamlaw11.QueueTwo", spec := "queueTwo", unfollowed := true, recurses := true, apart := false }
def QueueTwoSaid : Prop := queueTwoRow.holds Try.pinned (OpenSpec.ofChange queueTwoSpec)

/-- ITS FALSE NEIGHBOUR: 'it returns false'. Refute it at one input. -/
def queueTwoWrong : ChangeSpec := { name := "queueTwo", fn := fun _ => fun
  | [d1, d2, d3] => { results := [.lit (.bool false)], args := [d1, d2, d3] }
  | _ => none }
def QueueTwoWrongFalsely : Prop := queueTwoRow.holds Try.pinned (OpenSpec.ofChange queueTwoWrong)

/-- 'jetsamlaw11.QueueRaw': WHATEVER THE INPUT: true; the input reads as it did. -/
def queueRawSpec : ChangeSpec := { name := "queueRaw", fn := fun _ => fun
  | [d1, d2, d3] => { results := [.lit (.bool true)], args := [d1, d2, d3] }
  | _ => none }
def queueRawRow : OpenClaim := { program := "ytgepaajhccadhaa", sum := "4d71b90e16aa3592ef16184c6a772f9e8c31b96f8903d0b29e8ab2d5e77f120e", func := "jetsam/jetsamlaw11.QueueRaw", spec := "queueRaw", unfollowed := true, recurses := true, apart := false }
def QueueRawSaid : Prop := queueRawRow.holds Try.pinned (OpenSpec.ofChange queueRawSpec)

/-- ITS FALSE NEIGHBOUR: 'it returns false'. Refute it at one input. -/
def queueRawWrong : ChangeSpec := { name := "queueRaw", fn := fun _ => fun
  | [d1, d2, d3] => { results := [.lit (.bool false)], args := [d1, d2, d3] }
  | _ => none }
def QueueRawWrongFalsely : Prop := queueRawRow.holds Try.pinned (OpenSpec.ofChange queueRawWrong)

/-- 'jetsamlaw11.QueueOrders': WHATEVER THE INPUT: true; the input reads as it did. -/
def queueOrdersSpec : ChangeSpec := { name := "queueOrders", fn := fun _ => fun
  | [d1, d2] => { results := [.lit (.bool true)], args := [d1, d2] }
  | _ => none }
def queueOrdersRow : OpenClaim := { program := "ytgepaajhccadhaa", sum := "4d71b90e16aa3592ef16184c6a772f9e8c31b96f8903d0b29e8ab2d5e77f120e", func := "jetsam/jetsamlaw11.QueueOrders", spec := "queueOrders", apart := false }
def QueueOrdersSaid : Prop := queueOrdersRow.holds Try.pinned (OpenSpec.ofChange queueOrdersSpec)

/-- ITS FALSE NEIGHBOUR: 'it returns false'. Refute it at one input. -/
def queueOrdersWrong : ChangeSpec := { name := "queueOrders", fn := fun _ => fun
  | [d1, d2] => { results := [.lit (.bool false)], args := [d1, d2] }
  | _ => none }
def QueueOrdersWrongFalsely : Prop := queueOrdersRow.holds Try.pinned (OpenSpec.ofChange queueOrdersWrong)

/-- 'jetsamtop.JetsamChannels': WHATEVER THE INPUT: true; the input reads as it did. -/
def jetsamChannelsSpec : ChangeSpec := { name := "jetsamChannels", fn := fun _ => fun
  | [d1, d2] => { results := [.lit (.bool true)], args := [d1, d2] }
  | _ => none }
def jetsamChannelsRow : OpenClaim := { program := "ytgepaajhccadhaa", sum := "4d71b90e16aa3592ef16184c6a772f9e8c31b96f8903d0b29e8ab2d5e77f120e", func := "jetsam/jetsamtop.JetsamChannels", spec := "jetsamChannels", apart := false }
def JetsamChannelsSaid : Prop := jetsamChannelsRow.holds Try.pinned (OpenSpec.ofChange jetsamChannelsSpec)

/-- ITS FALSE NEIGHBOUR: 'it returns false'. Refute it at one input. -/
def jetsamChannelsWrong : ChangeSpec := { name := "jetsamChannels", fn := fun _ => fun
  | [d1, d2] => { results := [.lit (.bool false)], args := [d1, d2] }
  | _ => none }
def JetsamChannelsWrongFalsely : Prop := jetsamChannelsRow.holds Try.pinned (OpenSpec.ofChange jetsamChannelsWrong)

/- THE SECOND FORM. 'bulk': how many values and letters a reading holds, each counted each time it is reached (what is shared counts as often as it is met; a slice's spare places count too). A statement '..UptoSaid' is the law's where the arguments, and the package variables that the reading takes, are together of bulk at most 1048576: NARROWER than '..Said'. Prove '..Said' where nothing that the law and all that it calls make is longer than what came in: it says more and counts as full. Else prove '..UptoSaid'. A law counts once. -/
mutual
def uptoBulk {H : Type} : DataW H → Nat
  | .lit (.string bytes) => bytes.length + 1
  | .lit _ => 1
  | .nil => 1
  | .ptr d => uptoBulk d + 1
  | .slice elems spare => uptoBulkAll elems + uptoBulkAll spare + 1
  | .agg parts => uptoBulkAll parts + 1
  | .iface _ d => uptoBulk d + 1
  | .map entries => uptoBulkEntries entries + 1
  | .held _ => 1
def uptoBulkAll {H : Type} : List (DataW H) → Nat
  | [] => 0
  | d :: r => uptoBulk d + uptoBulkAll r
def uptoBulkEntries {H : Type} : List (Lit × DataW H) → Nat
  | [] => 0
  | x :: r => uptoBulkEntry x + uptoBulkEntries r
def uptoBulkEntry {H : Type} : Lit × DataW H → Nat
  | (.string bytes, d) => bytes.length + uptoBulk d + 1
  | (_, d) => uptoBulk d + 1
 end
def uptoSmall : (H : Type) → List (DataW H) → Bool := fun _ ds => decide (uptoBulkAll ds ≤ 1048576)
def OpenSpec.upto (s : _root_.Go.ChangeSpec) : _root_.Go.OpenSpec := { _root_.Go.OpenSpec.ofChange s with cond := some uptoSmall }

/-- 'jetsamlaw11.QueueSends', WHERE WHAT IT READS IS OF BULK AT MOST 1048576: true; the input reads as it did. -/
def queueSendsUptoRow : OpenClaim := { program := "ytgepaajhccadhaa", sum := "4d71b90e16aa3592ef16184c6a772f9e8c31b96f8903d0b29e8ab2d5e77f120e", func := "jetsam/jetsamlaw11.QueueSends", spec := "queueSends", apart := false, narrowed := true }
def QueueSendsUptoSaid : Prop := queueSendsUptoRow.holds Try.pinned (OpenSpec.upto queueSendsSpec)

/-- 'jetsamlaw11.QueueHas', WHERE WHAT IT READS IS OF BULK AT MOST 1048576: true; the input reads as it did. -/
def queueHasUptoRow : OpenClaim := { program := "ytgepaajhccadhaa", sum := "4d71b90e16aa3592ef16184c6a772f9e8c31b96f8903d0b29e8ab2d5e77f120e", func := "jetsam/jetsamlaw11.QueueHas", spec := "queueHas", apart := false, narrowed := true }
def QueueHasUptoSaid : Prop := queueHasUptoRow.holds Try.pinned (OpenSpec.upto queueHasSpec)

/-- 'jetsamlaw11.QueueTwo', WHERE WHAT IT READS IS OF BULK AT MOST 1048576: true; the input reads as it did. -/
def queueTwoUptoRow : OpenClaim := { program := "ytgepaajhccadhaa", sum := "4d71b90e16aa3592ef16184c6a772f9e8c31b96f8903d0b29e8ab2d5e77f120e", func := "jetsam/jetsamlaw11.QueueTwo", spec := "queueTwo", unfollowed := true, recurses := true, apart := false, narrowed := true }
def QueueTwoUptoSaid : Prop := queueTwoUptoRow.holds Try.pinned (OpenSpec.upto queueTwoSpec)

/-- 'jetsamlaw11.QueueRaw', WHERE WHAT IT READS IS OF BULK AT MOST 1048576: true; the input reads as it did. -/
def queueRawUptoRow : OpenClaim := { program := "ytgepaajhccadhaa", sum := "4d71b90e16aa3592ef16184c6a772f9e8c31b96f8903d0b29e8ab2d5e77f120e", func := "jetsam/jetsamlaw11.QueueRaw", spec := "queueRaw", unfollowed := true, recurses := true, apart := false, narrowed := true }
def QueueRawUptoSaid : Prop := queueRawUptoRow.holds Try.pinned (OpenSpec.upto queueRawSpec)

/-- 'jetsamlaw11.QueueOrders', WHERE WHAT IT READS IS OF BULK AT MOST 1048576: true; the input reads as it did. -/
def queueOrdersUptoRow : OpenClaim := { program := "ytgepaajhccadhaa", sum := "4d71b90e16aa3592ef16184c6a772f9e8c31b96f8903d0b29e8ab2d5e77f120e", func := "jetsam/jetsamlaw11.QueueOrders", spec := "queueOrders", apart := false, narrowed := true }
def QueueOrdersUptoSaid : Prop := queueOrdersUptoRow.holds Try.pinned (OpenSpec.upto queueOrdersSpec)

/-- 'jetsamtop.JetsamChannels', WHERE WHAT IT READS IS OF BULK AT MOST 1048576: true; the input reads as it did. -/
def jetsamChannelsUptoRow : OpenClaim := { program := "ytgepaajhccadhaa", sum := "4d71b90e16aa3592ef16184c6a772f9e8c31b96f8903d0b29e8ab2d5e77f120e", func := "jetsam/jetsamtop.JetsamChannels", spec := "jetsamChannels", apart := false, narrowed := true }
def JetsamChannelsUptoSaid : Prop := jetsamChannelsUptoRow.holds Try.pinned (OpenSpec.upto jetsamChannelsSpec)

end Rows
end Go.Proofs.Ytgepaajhccadhaa
