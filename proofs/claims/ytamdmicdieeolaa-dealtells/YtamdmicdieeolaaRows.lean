/-
  No cell of these rows narrows 'for every input' (looked for: loops, veiled, ifaces, maps, wideKeys, modest, calm, conditions, laid).
  DERIVED. THE GIVEN ROWS OF THIS SEAT. 4 by the template 'for every input the law returns true; each argument reads behind the call as it read before'; 0 by the template 'total and deterministic' (their statements: YtamdmicdieeolaaTotals.lean).
  GIVEN WITH THE SEED: the statements are not yours to turn. If you find one false, say at which input.
  Laid BY PROGRAM, IN A SANDBOX (cutbox-rows.mjs): the forced cells as the released guide's own fill.sh prints them over the translation fcd349b4dffbf55f… (all of the seat's roots in one cut). By AI agents, Wed Nov 11 2026. No macro, syntax, notation, axiom, sorry.
-/
import Derived.Test.YtamdmicdieeolaaChecked
import GoSem.Claim
import GoSem.ClaimJoined
import GoSem.ClaimMapViews
import Derived.JoinedTies
import Derived.KernelRfl
namespace Go.Proofs.Ytamdmicdieeolaa
/- THE CELL 'sum', in the pinned program and in every row, IS THE sha256 OF THE DUMP (.gsa) THAT YtamdmicdieeolaaProg.lean LOADS. Nothing in Lean hashes anything: it is a label: what it is worth is what the hold of that sum in a sandbox is worth. -/
noncomputable def Try.pinned : Pinned := { name := "ytamdmicdieeolaa", sum := "fcd349b4dffbf55fe75278104bf44657aa4d86357bf58230180d2c03afe2e3dd", checked := Try.checked }
namespace Rows
def none {H : Type} : Left H := { results := [], args := [] }

/-- 'cascadelaw11.DealRuns': WHATEVER THE INPUT: true; the input reads as it did. -/
def dealRunsSpec : ChangeSpec := { name := "dealRuns", fn := fun _ => fun
  | [] => { results := [.lit (.bool true)], args := [] }
  | _ => none }
def dealRunsRow : OpenClaim := { program := "ytamdmicdieeolaa", sum := "fcd349b4dffbf55fe75278104bf44657aa4d86357bf58230180d2c03afe2e3dd", func := "cascade/cascadelaw11.DealRuns", spec := "dealRuns", apart := false }
def DealRunsSaid : Prop := dealRunsRow.holds Try.pinned (OpenSpec.ofChange dealRunsSpec)

/-- ITS FALSE NEIGHBOUR: 'it returns false'. Refute it at one input. -/
def dealRunsWrong : ChangeSpec := { name := "dealRuns", fn := fun _ => fun
  | [] => { results := [.lit (.bool false)], args := [] }
  | _ => none }
def DealRunsWrongFalsely : Prop := dealRunsRow.holds Try.pinned (OpenSpec.ofChange dealRunsWrong)

/-- 'cascadelaw11.DealTells': WHATEVER THE INPUT: true; the input reads as it did. -/
def dealTellsSpec : ChangeSpec := { name := "dealTells", fn := fun _ => fun
  | [d1, d2, d3, d4] => { results := [.lit (.bool true)], args := [d1, d2, d3, d4] }
  | _ => none }
def dealTellsRow : OpenClaim := { program := "ytamdmicdieeolaa", sum := "fcd349b4dffbf55fe75278104bf44657aa4d86357bf58230180d2c03afe2e3dd", func := "cascade/cascadelaw11.DealTells", spec := "dealTells", apart := false }
def DealTellsSaid : Prop := dealTellsRow.holds Try.pinned (OpenSpec.ofChange dealTellsSpec)

/-- ITS FALSE NEIGHBOUR: 'it returns false'. Refute it at one input. -/
def dealTellsWrong : ChangeSpec := { name := "dealTells", fn := fun _ => fun
  | [d1, d2, d3, d4] => { results := [.lit (.bool false)], args := [d1, d2, d3, d4] }
  | _ => none }
def DealTellsWrongFalsely : Prop := dealTellsRow.holds Try.pinned (OpenSpec.ofChange dealTellsWrong)

/-- 'cascadelaw11.DealTurned': WHATEVER THE INPUT: true; the input reads as it did. -/
def dealTurnedSpec : ChangeSpec := { name := "dealTurned", fn := fun _ => fun
  | [d1, d2, d3] => { results := [.lit (.bool true)], args := [d1, d2, d3] }
  | _ => none }
def dealTurnedRow : OpenClaim := { program := "ytamdmicdieeolaa", sum := "fcd349b4dffbf55fe75278104bf44657aa4d86357bf58230180d2c03afe2e3dd", func := "cascade/cascadelaw11.DealTurned", spec := "dealTurned", apart := false }
def DealTurnedSaid : Prop := dealTurnedRow.holds Try.pinned (OpenSpec.ofChange dealTurnedSpec)

/-- ITS FALSE NEIGHBOUR: 'it returns false'. Refute it at one input. -/
def dealTurnedWrong : ChangeSpec := { name := "dealTurned", fn := fun _ => fun
  | [d1, d2, d3] => { results := [.lit (.bool false)], args := [d1, d2, d3] }
  | _ => none }
def DealTurnedWrongFalsely : Prop := dealTurnedRow.holds Try.pinned (OpenSpec.ofChange dealTurnedWrong)

/-- 'cascadelaw11.DealSteps': WHATEVER THE INPUT: true; the input reads as it did. -/
def dealStepsSpec : ChangeSpec := { name := "dealSteps", fn := fun _ => fun
  | [d1, d2, d3, d4, d5] => { results := [.lit (.bool true)], args := [d1, d2, d3, d4, d5] }
  | _ => none }
def dealStepsRow : OpenClaim := { program := "ytamdmicdieeolaa", sum := "fcd349b4dffbf55fe75278104bf44657aa4d86357bf58230180d2c03afe2e3dd", func := "cascade/cascadelaw11.DealSteps", spec := "dealSteps", apart := false }
def DealStepsSaid : Prop := dealStepsRow.holds Try.pinned (OpenSpec.ofChange dealStepsSpec)

/-- ITS FALSE NEIGHBOUR: 'it returns false'. Refute it at one input. -/
def dealStepsWrong : ChangeSpec := { name := "dealSteps", fn := fun _ => fun
  | [d1, d2, d3, d4, d5] => { results := [.lit (.bool false)], args := [d1, d2, d3, d4, d5] }
  | _ => none }
def DealStepsWrongFalsely : Prop := dealStepsRow.holds Try.pinned (OpenSpec.ofChange dealStepsWrong)

/- THE SECOND FORM. 'bulk': how many values and letters a reading holds, each counted each time it is reached (what is shared counts as often as it is met; a slice's spare places count too). A statement '..UptoSaid' is the law's where the arguments, and the package variables that the reading takes, are together of bulk at most 1048576: NARROWER than '..Said'. Prove '..Said' where nothing that the law and all that it calls make is longer than what came in: it says more and counts as full. Else prove '..UptoSaid'. A law counts once. -/
mutual
def uptoBulk {H : Type} : DataW H → Nat
  | .lit (.string bytes) => bytes.length + 1
  | .lit _ => 1
  | .nil => 1
  | .ptr d => uptoBulk d + 1
  | .slice elems spare => uptoBulkAll elems + uptoBulkAll spare + 1
  | .agg parts => uptoBulkAll parts + 1
  | .iface _ d => uptoBulk d + 1
  | .map entries => uptoBulkEntries entries + 1
  | .held _ => 1
def uptoBulkAll {H : Type} : List (DataW H) → Nat
  | [] => 0
  | d :: r => uptoBulk d + uptoBulkAll r
def uptoBulkEntries {H : Type} : List (Lit × DataW H) → Nat
  | [] => 0
  | x :: r => uptoBulkEntry x + uptoBulkEntries r
def uptoBulkEntry {H : Type} : Lit × DataW H → Nat
  | (.string bytes, d) => bytes.length + uptoBulk d + 1
  | (_, d) => uptoBulk d + 1
 end
def uptoSmall : (H : Type) → List (DataW H) → Bool := fun _ ds => decide (uptoBulkAll ds ≤ 1048576)
def OpenSpec.upto (s : _root_.Go.ChangeSpec) : _root_.Go.OpenSpec := { _root_.Go.OpenSpec.ofChange s with cond := some uptoSmall }

/-- 'cascadelaw11.DealRuns', WHERE WHAT IT READS IS OF BULK AT MOST 1048576: true; the input reads as it did. -/
def dealRunsUptoRow : OpenClaim := { program := "ytamdmicdieeolaa", sum := "fcd349b4dffbf55fe75278104bf44657aa4d86357bf58230180d2c03afe2e3dd", func := "cascade/cascadelaw11.DealRuns", spec := "dealRuns", apart := false, narrowed := true }
def DealRunsUptoSaid : Prop := dealRunsUptoRow.holds Try.pinned (OpenSpec.upto dealRunsSpec)

/-- 'cascadelaw11.DealTells', WHERE WHAT IT READS IS OF BULK AT MOST 1048576: true; the input reads as it did. -/
def dealTellsUptoRow : OpenClaim := { program := "ytamdmicdieeolaa", sum := "fcd349b4dffbf55fe75278104bf44657aa4d86357bf58230180d2c03afe2e3dd", func := "cascade/cascadelaw11.DealTells", spec := "dealTells", apart := false, narrowed := true }
def DealTellsUptoSaid : Prop := dealTellsUptoRow.holds Try.pinned (OpenSpec.upto dealTellsSpec)

/-- 'cascadelaw11.DealTurned', WHERE WHAT IT READS IS OF BULK AT MOST 1048576: true; the input reads as it did. -/
def dealTurnedUptoRow : OpenClaim := { program := "ytamdmicdieeolaa", sum := "fcd349b4dffbf55fe75278104bf44657aa4d86357bf58230180d2c03afe2e3dd", func := "cascade/cascadelaw11.DealTurned", spec := "dealTurned", apart := false, narrowed := true }
def DealTurnedUptoSaid : Prop := dealTurnedUptoRow.holds Try.pinned (OpenSpec.upto dealTurnedSpec)

/-- 'cascadelaw11.DealSteps', WHERE WHAT IT READS IS OF BULK AT MOST 1048576: true; the input reads as it did. -/
def dealStepsUptoRow : OpenClaim := { program := "ytamdmicdieeolaa", sum := "fcd349b4dffbf55fe75278104bf44657aa4d86357bf58230180d2c03afe2e3dd", func := "cascade/cascadelaw11.DealSteps", spec := "dealSteps", apart := false, narrowed := true }
def DealStepsUptoSaid : Prop := dealStepsUptoRow.holds Try.pinned (OpenSpec.upto dealStepsSpec)

end Rows
end Go.Proofs.Ytamdmicdieeolaa
