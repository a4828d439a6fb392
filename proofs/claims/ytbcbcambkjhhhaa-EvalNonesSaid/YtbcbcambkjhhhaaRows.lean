/-
  NARROWER THAN 'FOR EVERY INPUT', by the rows' own cells (each row's printed sentence says how): StepEvals: loops · EvalLinears: loops · EvalHas: loops · EvalAlone: loops · EvalAssumes: loops · EvalNones: loops.
  DERIVED. THE GIVEN ROWS OF THIS SEAT. 10 by the template 'for every input the law returns true; each argument reads behind the call as it read before'; 0 by the template 'total and deterministic' (their statements: YtbcbcambkjhhhaaTotals.lean).
  GIVEN WITH THE SEED: the statements are not yours to turn. If you find one false, say at which input.
  Laid BY PROGRAM, IN A SANDBOX (cutbox-rows.mjs): the forced cells as the released guide's own fill.sh prints them over the translation b42e5ef16ce23f21… (all of the seat's roots in one cut). By AI agents, Wed Nov 11 2026. No macro, syntax, notation, axiom, sorry.
-/
import Derived.Test.YtbcbcambkjhhhaaChecked
import GoSem.Claim
import GoSem.ClaimJoined
import GoSem.ClaimMapViews
import Derived.JoinedTies
import Derived.KernelRfl
namespace Go.Proofs.Ytbcbcambkjhhhaa
/- THE CELL 'sum', in the pinned program and in every row, IS THE sha256 OF THE DUMP (.gsa) THAT YtbcbcambkjhhhaaProg.lean LOADS. Nothing in Lean hashes anything: it is a label: what it is worth is what the hold of that sum in a sandbox is worth. -/
noncomputable def Try.pinned : Pinned := { name := "ytbcbcambkjhhhaa", sum := "b42e5ef16ce23f21bf830cf6bcf5dd1ebe5470da69cde563429b2eb29df62a44", checked := Try.checked }
namespace Rows
def none {H : Type} : Left H := { results := [], args := [] }

/-- 'jetsamlaw07.StepEvals': WHATEVER THE INPUT: true; the input reads as it did. -/
def stepEvalsSpec : ChangeSpec := { name := "stepEvals", fn := fun _ => fun
  | [d1, d2, d3] => { results := [.lit (.bool true)], args := [d1, d2, d3] }
  | _ => none }
def stepEvalsRow : OpenClaim := { program := "ytbcbcambkjhhhaa", sum := "b42e5ef16ce23f21bf830cf6bcf5dd1ebe5470da69cde563429b2eb29df62a44", func := "jetsam/jetsamlaw07.StepEvals", spec := "stepEvals", unfollowed := true, recurses := true, loops := true, apart := false }
def StepEvalsSaid : Prop := stepEvalsRow.holds Try.pinned (OpenSpec.ofChange stepEvalsSpec)

/-- ITS FALSE NEIGHBOUR: 'it returns false'. Refute it at one input. -/
def stepEvalsWrong : ChangeSpec := { name := "stepEvals", fn := fun _ => fun
  | [d1, d2, d3] => { results := [.lit (.bool false)], args := [d1, d2, d3] }
  | _ => none }
def StepEvalsWrongFalsely : Prop := stepEvalsRow.holds Try.pinned (OpenSpec.ofChange stepEvalsWrong)

/-- 'jetsamlaw11.QueueTwo': WHATEVER THE INPUT: true; the input reads as it did. -/
def queueTwoSpec : ChangeSpec := { name := "queueTwo", fn := fun _ => fun
  | [d1, d2, d3] => { results := [.lit (.bool true)], args := [d1, d2, d3] }
  | _ => none }
def queueTwoRow : OpenClaim := { program := "ytbcbcambkjhhhaa", sum := "b42e5ef16ce23f21bf830cf6bcf5dd1ebe5470da69cde563429b2eb29df62a44", func := "jetsam/jetsamlaw11.QueueTwo", spec := "queueTwo", unfollowed := true, recurses := true, apart := false }
def QueueTwoSaid : Prop := queueTwoRow.holds Try.pinned (OpenSpec.ofChange queueTwoSpec)

/-- ITS FALSE NEIGHBOUR: 'it returns false'. Refute it at one input. -/
def queueTwoWrong : ChangeSpec := { name := "queueTwo", fn := fun _ => fun
  | [d1, d2, d3] => { results := [.lit (.bool false)], args := [d1, d2, d3] }
  | _ => none }
def QueueTwoWrongFalsely : Prop := queueTwoRow.holds Try.pinned (OpenSpec.ofChange queueTwoWrong)

/-- 'jetsamlaw11.QueueRaw': WHATEVER THE INPUT: true; the input reads as it did. -/
def queueRawSpec : ChangeSpec := { name := "queueRaw", fn := fun _ => fun
  | [d1, d2, d3] => { results := [.lit (.bool true)], args := [d1, d2, d3] }
  | _ => none }
def queueRawRow : OpenClaim := { program := "ytbcbcambkjhhhaa", sum := "b42e5ef16ce23f21bf830cf6bcf5dd1ebe5470da69cde563429b2eb29df62a44", func := "jetsam/jetsamlaw11.QueueRaw", spec := "queueRaw", unfollowed := true, recurses := true, apart := false }
def QueueRawSaid : Prop := queueRawRow.holds Try.pinned (OpenSpec.ofChange queueRawSpec)

/-- ITS FALSE NEIGHBOUR: 'it returns false'. Refute it at one input. -/
def queueRawWrong : ChangeSpec := { name := "queueRaw", fn := fun _ => fun
  | [d1, d2, d3] => { results := [.lit (.bool false)], args := [d1, d2, d3] }
  | _ => none }
def QueueRawWrongFalsely : Prop := queueRawRow.holds Try.pinned (OpenSpec.ofChange queueRawWrong)

/-- 'jetsamlaw13.EvalLinears': WHATEVER THE INPUT: true; the input reads as it did. -/
def evalLinearsSpec : ChangeSpec := { name := "evalLinears", fn := fun _ => fun
  | [d] => { results := [.lit (.bool true)], args := [d] }
  | _ => none }
def evalLinearsRow : OpenClaim := { program := "ytbcbcambkjhhhaa", sum := "b42e5ef16ce23f21bf830cf6bcf5dd1ebe5470da69cde563429b2eb29df62a44", func := "jetsam/jetsamlaw13.EvalLinears", spec := "evalLinears", unfollowed := true, recurses := true, loops := true, apart := false }
def EvalLinearsSaid : Prop := evalLinearsRow.holds Try.pinned (OpenSpec.ofChange evalLinearsSpec)

/-- ITS FALSE NEIGHBOUR: 'it returns false'. Refute it at one input. -/
def evalLinearsWrong : ChangeSpec := { name := "evalLinears", fn := fun _ => fun
  | [d] => { results := [.lit (.bool false)], args := [d] }
  | _ => none }
def EvalLinearsWrongFalsely : Prop := evalLinearsRow.holds Try.pinned (OpenSpec.ofChange evalLinearsWrong)

/-- 'jetsamlaw13.EvalHas': WHATEVER THE INPUT: true; the input reads as it did. -/
def evalHasSpec : ChangeSpec := { name := "evalHas", fn := fun _ => fun
  | [d1, d2, d3] => { results := [.lit (.bool true)], args := [d1, d2, d3] }
  | _ => none }
def evalHasRow : OpenClaim := { program := "ytbcbcambkjhhhaa", sum := "b42e5ef16ce23f21bf830cf6bcf5dd1ebe5470da69cde563429b2eb29df62a44", func := "jetsam/jetsamlaw13.EvalHas", spec := "evalHas", unfollowed := true, recurses := true, loops := true, apart := false }
def EvalHasSaid : Prop := evalHasRow.holds Try.pinned (OpenSpec.ofChange evalHasSpec)

/-- ITS FALSE NEIGHBOUR: 'it returns false'. Refute it at one input. -/
def evalHasWrong : ChangeSpec := { name := "evalHas", fn := fun _ => fun
  | [d1, d2, d3] => { results := [.lit (.bool false)], args := [d1, d2, d3] }
  | _ => none }
def EvalHasWrongFalsely : Prop := evalHasRow.holds Try.pinned (OpenSpec.ofChange evalHasWrong)

/-- 'jetsamlaw13.EvalAlone': WHATEVER THE INPUT: true; the input reads as it did. -/
def evalAloneSpec : ChangeSpec := { name := "evalAlone", fn := fun _ => fun
  | [d1, d2, d3] => { results := [.lit (.bool true)], args := [d1, d2, d3] }
  | _ => none }
def evalAloneRow : OpenClaim := { program := "ytbcbcambkjhhhaa", sum := "b42e5ef16ce23f21bf830cf6bcf5dd1ebe5470da69cde563429b2eb29df62a44", func := "jetsam/jetsamlaw13.EvalAlone", spec := "evalAlone", unfollowed := true, recurses := true, loops := true, apart := false }
def EvalAloneSaid : Prop := evalAloneRow.holds Try.pinned (OpenSpec.ofChange evalAloneSpec)

/-- ITS FALSE NEIGHBOUR: 'it returns false'. Refute it at one input. -/
def evalAloneWrong : ChangeSpec := { name := "evalAlone", fn := fun _ => fun
  | [d1, d2, d3] => { results := [.lit (.bool false)], args := [d1, d2, d3] }
  | _ => none }
def EvalAloneWrongFalsely : Prop := evalAloneRow.holds Try.pinned (OpenSpec.ofChange evalAloneWrong)

/-- 'jetsamlaw13.EvalAssumes': WHATEVER THE INPUT: true; the input reads as it did. -/
def evalAssumesSpec : ChangeSpec := { name := "evalAssumes", fn := fun _ => fun
  | [d1, d2, d3] => { results := [.lit (.bool true)], args := [d1, d2, d3] }
  | _ => none }
def evalAssumesRow : OpenClaim := { program := "ytbcbcambkjhhhaa", sum := "b42e5ef16ce23f21bf830cf6bcf5dd1ebe5470da69cde563429b2eb29df62a44", func := "jetsam/jetsamlaw13.EvalAssumes", spec := "evalAssumes", unfollowed := true, recurses := true, loops := true, apart := false }
def EvalAssumesSaid : Prop := evalAssumesRow.holds Try.pinned (OpenSpec.ofChange evalAssumesSpec)

/-- ITS FALSE NEIGHBOUR: 'it returns false'. Refute it at one input. -/
def evalAssumesWrong : ChangeSpec := { name := "evalAssumes", fn := fun _ => fun
  | [d1, d2, d3] => { results := [.lit (.bool false)], args := [d1, d2, d3] }
  | _ => none }
def EvalAssumesWrongFalsely : Prop := evalAssumesRow.holds Try.pinned (OpenSpec.ofChange evalAssumesWrong)

/-- 'jetsamlaw13.EvalNones': WHATEVER THE INPUT: true; the input reads as it did. -/
def evalNonesSpec : ChangeSpec := { name := "evalNones", fn := fun _ => fun
  | [d1, d2] => { results := [.lit (.bool true)], args := [d1, d2] }
  | _ => none }
def evalNonesRow : OpenClaim := { program := "ytbcbcambkjhhhaa", sum := "b42e5ef16ce23f21bf830cf6bcf5dd1ebe5470da69cde563429b2eb29df62a44", func := "jetsam/jetsamlaw13.EvalNones", spec := "evalNones", unfollowed := true, recurses := true, loops := true, apart := false }
def EvalNonesSaid : Prop := evalNonesRow.holds Try.pinned (OpenSpec.ofChange evalNonesSpec)

/-- ITS FALSE NEIGHBOUR: 'it returns false'. Refute it at one input. -/
def evalNonesWrong : ChangeSpec := { name := "evalNones", fn := fun _ => fun
  | [d1, d2] => { results := [.lit (.bool false)], args := [d1, d2] }
  | _ => none }
def EvalNonesWrongFalsely : Prop := evalNonesRow.holds Try.pinned (OpenSpec.ofChange evalNonesWrong)

/-- 'jetsamlaw13.EvalLeft': WHATEVER THE INPUT: true; the input reads as it did. -/
def evalLeftSpec : ChangeSpec := { name := "evalLeft", fn := fun _ => fun
  | [d1, d2] => { results := [.lit (.bool true)], args := [d1, d2] }
  | _ => none }
def evalLeftRow : OpenClaim := { program := "ytbcbcambkjhhhaa", sum := "b42e5ef16ce23f21bf830cf6bcf5dd1ebe5470da69cde563429b2eb29df62a44", func := "jetsam/jetsamlaw13.EvalLeft", spec := "evalLeft", unfollowed := true, recurses := true, apart := false }
def EvalLeftSaid : Prop := evalLeftRow.holds Try.pinned (OpenSpec.ofChange evalLeftSpec)

/-- ITS FALSE NEIGHBOUR: 'it returns false'. Refute it at one input. -/
def evalLeftWrong : ChangeSpec := { name := "evalLeft", fn := fun _ => fun
  | [d1, d2] => { results := [.lit (.bool false)], args := [d1, d2] }
  | _ => none }
def EvalLeftWrongFalsely : Prop := evalLeftRow.holds Try.pinned (OpenSpec.ofChange evalLeftWrong)

/-- 'jetsamtop.JetsamChannels': WHATEVER THE INPUT: true; the input reads as it did. -/
def jetsamChannelsSpec : ChangeSpec := { name := "jetsamChannels", fn := fun _ => fun
  | [d1, d2] => { results := [.lit (.bool true)], args := [d1, d2] }
  | _ => none }
def jetsamChannelsRow : OpenClaim := { program := "ytbcbcambkjhhhaa", sum := "b42e5ef16ce23f21bf830cf6bcf5dd1ebe5470da69cde563429b2eb29df62a44", func := "jetsam/jetsamtop.JetsamChannels", spec := "jetsamChannels", apart := false }
def JetsamChannelsSaid : Prop := jetsamChannelsRow.holds Try.pinned (OpenSpec.ofChange jetsamChannelsSpec)

/-- ITS FALSE NEIGHBOUR: 'it returns false'. Refute it at one input. -/
def jetsamChannelsWrong : ChangeSpec := { name := "jetsamChannels", fn := fun _ => fun
  | [d1, d2] => { results := [.lit (.bool false)], args := [d1, d2] }
  | _ => none }
def JetsamChannelsWrongFalsely : Prop := jetsamChannelsRow.holds Try.pinned (OpenSpec.ofChange jetsamChannelsWrong)

/- THE SECOND FORM. 'bulk': how many values and letters a reading holds, each counted each time it is reached (what is shared counts as often as it is met; a slice's spare places count too). A statement '..UptoSaid' is the law's where the arguments, and the package variables that the reading takes, are together of bulk at most 1048576: NARROWER than '..Said'. Prove '..Said' where nothing that the law and all that it calls make is longer than what came in: it says more and counts as full. Else prove '..UptoSaid'. A law counts once. -/
mutual
def uptoBulk {H : Type} : DataW H → Nat
  | .lit (.string bytes) => bytes.length + 1
  | .lit _ => 1
  | .nil => 1
  | .ptr d => uptoBulk d + 1
  | .slice elems spare => uptoBulkAll elems + uptoBulkAll spare + 1
  | .agg parts => uptoBulkAll parts + 1
  | .iface _ d => uptoBulk d + 1
  | .map entries => uptoBulkEntries entries + 1
  | .held _ => 1
def uptoBulkAll {H : Type} : List (DataW H) → Nat
  | [] => 0
  | d :: r => uptoBulk d + uptoBulkAll r
def uptoBulkEntries {H : Type} : List (Lit × DataW H) → Nat
  | [] => 0
  | x :: r => uptoBulkEntry x + uptoBulkEntries r
def uptoBulkEntry {H : Type} : Lit × DataW H → Nat
  | (.string bytes, d) => bytes.length + uptoBulk d + 1
  | (_, d) => uptoBulk d + 1
 end
def uptoSmall : (H : Type) → List (DataW H) → Bool := fun _ ds => decide (uptoBulkAll ds ≤ 1048576)
def OpenSpec.upto (s : _root_.Go.ChangeSpec) : _root_.Go.OpenSpec := { _root_.Go.OpenSpec.ofChange s with cond := some uptoSmall }

/-- 'jetsamlaw07.StepEvals', WHERE WHAT IT READS IS OF BULK AT MOST 1048576: true; the input reads as it did. -/
def stepEvalsUptoRow : OpenClaim := { program := "ytbcbcambkjhhhaa", sum := "b42e5ef16ce23f21bf830cf6bcf5dd1ebe5470da69cde563429b2eb29df62a44", func := "jetsam/jetsamlaw07.StepEvals", spec := "stepEvals", unfollowed := true, recurses := true, loops := true, apart := false, narrowed := true }
def StepEvalsUptoSaid : Prop := stepEvalsUptoRow.holds Try.pinned (OpenSpec.upto stepEvalsSpec)

/-- 'jetsamlaw11.QueueTwo', WHERE WHAT IT READS IS OF BULK AT MOST 1048576: true; the input reads as it did. -/
def queueTwoUptoRow : OpenClaim := { program := "ytbcbcambkjhhhaa", sum := "b42e5ef16ce23f21bf830cf6bcf5dd1ebe5470da69cde563429b2eb29df62a44", func := "jetsam/jetsamlaw11.QueueTwo", spec := "queueTwo", unfollowed := true, recurses := true, apart := false, narrowed := true }
def QueueTwoUptoSaid : Prop := queueTwoUptoRow.holds Try.pinned (OpenSpec.upto queueTwoSpec)

/-- 'jetsamlaw11.QueueRaw', WHERE WHAT IT READS IS OF BULK AT MOST 1048576: true; the input reads as it did. -/
def queueRawUptoRow : OpenClaim := { program := "ytbcbcambkjhhhaa", sum := "b42e5ef16ce23f21bf830cf6bcf5dd1ebe5470da69cde563429b2eb29df62a44", func := "jetsam/jetsamlaw11.QueueRaw", spec := "queueRaw", unfollowed := true, recurses := true, apart := false, narrowed := true }
def QueueRawUptoSaid : Prop := queueRawUptoRow.holds Try.pinned (OpenSpec.upto queueRawSpec)

/-- 'jetsamlaw13.EvalLinears', WHERE WHAT IT READS IS OF BULK AT MOST 1048576: true; the input reads as it did. -/
def evalLinearsUptoRow : OpenClaim := { program := "ytbcbcambkjhhhaa", sum := "b42e5ef16ce23f21bf830cf6bcf5dd1ebe5470da69cde563429b2eb29df62a44", func := "jetsam/jetsamlaw13.EvalLinears", spec := "evalLinears", unfollowed := true, recurses := true, loops := true, apart := false, narrowed := true }
def EvalLinearsUptoSaid : Prop := evalLinearsUptoRow.holds Try.pinned (OpenSpec.upto evalLinearsSpec)

/-- 'jetsamlaw13.EvalHas', WHERE WHAT IT READS IS OF BULK AT MOST 1048576: true; the input reads as it did. -/
def evalHasUptoRow : OpenClaim := { program := "ytbcbcambkjhhhaa", sum := "b42e5ef16ce23f21bf830cf6bcf5dd1ebe5470da69cde563429b2eb29df62a44", func := "jetsam/jetsamlaw13.EvalHas", spec := "evalHas", unfollowed := true, recurses := true, loops := true, apart := false, narrowed := true }
def EvalHasUptoSaid : Prop := evalHasUptoRow.holds Try.pinned (OpenSpec.upto evalHasSpec)

/-- 'jetsamlaw13.EvalAlone', WHERE WHAT IT READS IS OF BULK AT MOST 1048576: true; the input reads as it did. -/
def evalAloneUptoRow : OpenClaim := { program := "ytbcbcambkjhhhaa", sum := "b42e5ef16ce23f21bf830cf6bcf5dd1ebe5470da69cde563429b2eb29df62a44", func := "jetsam/jetsamlaw13.EvalAlone", spec := "evalAlone", unfollowed := true, recurses := true, loops := true, apart := false, narrowed := true }
def EvalAloneUptoSaid : Prop := evalAloneUptoRow.holds Try.pinned (OpenSpec.upto evalAloneSpec)

/-- 'jetsamlaw13.EvalAssumes', WHERE WHAT IT READS IS OF BULK AT MOST 1048576: true; the input reads as it did. -/
def evalAssumesUptoRow : OpenClaim := { program := "ytbcbcambkjhhhaa", sum := "b42e5ef16ce23f21bf830cf6bcf5dd1ebe5470da69cde563429b2eb29df62a44", func := "jetsam/jetsamlaw13.EvalAssumes", spec := "evalAssumes", unfollowed := true, recurses := true, loops := true, apart := false, narrowed := true }
def EvalAssumesUptoSaid : Prop := evalAssumesUptoRow.holds Try.pinned (OpenSpec.upto evalAssumesSpec)

/-- 'jetsamlaw13.EvalNones', WHERE WHAT IT READS IS OF BULK AT MOST 1048576: true; the input reads as it did. -/
def evalNonesUptoRow : OpenClaim := { program := "ytbcbcambkjhhhaa", sum := "b42e5ef16ce23f21bf830cf6bcf5dd1ebe5470da69cde563429b2eb29df62a44", func := "jetsam/jetsamlaw13.EvalNones", spec := "evalNones", unfollowed := true, recurses := true, loops := true, apart := false, narrowed := true }
def EvalNonesUptoSaid : Prop := evalNonesUptoRow.holds Try.pinned (OpenSpec.upto evalNonesSpec)

/-- 'jetsamlaw13.EvalLeft', WHERE WHAT IT READS IS OF BULK AT MOST 1048576: true; the input reads as it did. -/
def evalLeftUptoRow : OpenClaim := { program := "ytbcbcambkjhhhaa", sum := "b42e5ef16ce23f21bf830cf6bcf5dd1ebe5470da69cde563429b2eb29df62a44", func := "jetsam/jetsamlaw13.EvalLeft", spec := "evalLeft", unfollowed := true, recurses := true, apart := false, narrowed := true }
def EvalLeftUptoSaid : Prop := evalLeftUptoRow.holds Try.pinned (OpenSpec.upto evalLeftSpec)

/-- 'jetsamtop.JetsamChannels', WHERE WHAT IT READS IS OF BULK AT MOST 1048576: true; the input reads as it did. -/
def jetsamChannelsUptoRow : OpenClaim := { program := "ytbcbcambkjhhhaa", sum := "b42e5ef16ce23f21bf830cf6bcf5dd1ebe5470da69cde563429b2eb29df62a44", func := "jetsam/jetsamtop.JetsamChannels", spec := "jetsamChannels", apart := false, narrowed := true }
def JetsamChannelsUptoSaid : Prop := jetsamChannelsUptoRow.holds Try.pinned (OpenSpec.upto jetsamChannelsSpec)

end Rows
end Go.Proofs.Ytbcbcambkjhhhaa
