/-
  No cell of these rows narrows 'for every input' (looked for: loops, veiled, ifaces, maps, wideKeys, modest, calm, conditions, laid).
  DERIVED. THE GIVEN ROWS OF THIS SEAT. 4 by the template 'for every input the law returns true; each argument reads behind the call as it read before'; 0 by the template 'total and deterministic' (their statements: YtbppaomenhdjeaaTotals.lean).
  GIVEN WITH THE SEED: the statements are not yours to turn. If you find one false, say at which input.
  Laid BY PROGRAM, IN A SANDBOX (cutbox-rows.mjs): the forced cells as the released guide's own fill.sh prints them over the translation 4a520f5efe1b6cc9… (all of the seat's roots in one cut). By AI agents, Wed Nov 11 2026. No macro, syntax, notation, axiom, sorry.
-/
import Derived.Test.YtbppaomenhdjeaaChecked
import GoSem.Claim
import GoSem.ClaimJoined
import GoSem.ClaimMapViews
import Derived.JoinedTies
import Derived.KernelRfl
namespace Go.Proofs.Ytbppaomenhdjeaa
/- THE CELL 'sum', in the pinned program and in every row, IS THE sha256 OF THE DUMP (.gsa) THAT YtbppaomenhdjeaaProg.lean LOADS. Nothing in Lean hashes anything: it is a label: what it is worth is what the hold of that sum in a sandbox is worth. -/
noncomputable def Try.pinned : Pinned := { name := "ytbppaomenhdjeaa", sum := "4a520f5efe1b6cc9f967ad0c80f7d90614e46cdec4ef985256c796bb2e7dc9b6", checked := Try.checked }
namespace Rows
def none {H : Type} : Left H := { results := [], args := [] }

/-- 'cascadelaw10.LateRuns': WHATEVER THE INPUT: true; the input reads as it did. -/
def lateRunsSpec : ChangeSpec := { name := "lateRuns", fn := fun _ => fun
  | [] => { results := [.lit (.bool true)], args := [] }
  | _ => none }
def lateRunsRow : OpenClaim := { program := "ytbppaomenhdjeaa", sum := "4a520f5efe1b6cc9f967ad0c80f7d90614e46cdec4ef985256c796bb2e7dc9b6", func := "cascade/cascadelaw10.LateRuns", spec := "lateRuns", apart := false }
def LateRunsSaid : Prop := lateRunsRow.holds Try.pinned (OpenSpec.ofChange lateRunsSpec)

/-- ITS FALSE NEIGHBOUR: 'it returns false'. Refute it at one input. -/
def lateRunsWrong : ChangeSpec := { name := "lateRuns", fn := fun _ => fun
  | [] => { results := [.lit (.bool false)], args := [] }
  | _ => none }
def LateRunsWrongFalsely : Prop := lateRunsRow.holds Try.pinned (OpenSpec.ofChange lateRunsWrong)

/-- 'cascadelaw10.LateBuckets': WHATEVER THE INPUT: true; the input reads as it did. -/
def lateBucketsSpec : ChangeSpec := { name := "lateBuckets", fn := fun _ => fun
  | [d1, d2, d3, d4] => { results := [.lit (.bool true)], args := [d1, d2, d3, d4] }
  | _ => none }
def lateBucketsRow : OpenClaim := { program := "ytbppaomenhdjeaa", sum := "4a520f5efe1b6cc9f967ad0c80f7d90614e46cdec4ef985256c796bb2e7dc9b6", func := "cascade/cascadelaw10.LateBuckets", spec := "lateBuckets", apart := false }
def LateBucketsSaid : Prop := lateBucketsRow.holds Try.pinned (OpenSpec.ofChange lateBucketsSpec)

/-- ITS FALSE NEIGHBOUR: 'it returns false'. Refute it at one input. -/
def lateBucketsWrong : ChangeSpec := { name := "lateBuckets", fn := fun _ => fun
  | [d1, d2, d3, d4] => { results := [.lit (.bool false)], args := [d1, d2, d3, d4] }
  | _ => none }
def LateBucketsWrongFalsely : Prop := lateBucketsRow.holds Try.pinned (OpenSpec.ofChange lateBucketsWrong)

/-- 'cascadelaw10.LateRatios': WHATEVER THE INPUT: true; the input reads as it did. -/
def lateRatiosSpec : ChangeSpec := { name := "lateRatios", fn := fun _ => fun
  | [d1, d2, d3, d4] => { results := [.lit (.bool true)], args := [d1, d2, d3, d4] }
  | _ => none }
def lateRatiosRow : OpenClaim := { program := "ytbppaomenhdjeaa", sum := "4a520f5efe1b6cc9f967ad0c80f7d90614e46cdec4ef985256c796bb2e7dc9b6", func := "cascade/cascadelaw10.LateRatios", spec := "lateRatios", apart := false }
def LateRatiosSaid : Prop := lateRatiosRow.holds Try.pinned (OpenSpec.ofChange lateRatiosSpec)

/-- ITS FALSE NEIGHBOUR: 'it returns false'. Refute it at one input. -/
def lateRatiosWrong : ChangeSpec := { name := "lateRatios", fn := fun _ => fun
  | [d1, d2, d3, d4] => { results := [.lit (.bool false)], args := [d1, d2, d3, d4] }
  | _ => none }
def LateRatiosWrongFalsely : Prop := lateRatiosRow.holds Try.pinned (OpenSpec.ofChange lateRatiosWrong)

/-- 'cascadelaw10.LateMoves': WHATEVER THE INPUT: true; the input reads as it did. -/
def lateMovesSpec : ChangeSpec := { name := "lateMoves", fn := fun _ => fun
  | [d1, d2, d3] => { results := [.lit (.bool true)], args := [d1, d2, d3] }
  | _ => none }
def lateMovesRow : OpenClaim := { program := "ytbppaomenhdjeaa", sum := "4a520f5efe1b6cc9f967ad0c80f7d90614e46cdec4ef985256c796bb2e7dc9b6", func := "cascade/cascadelaw10.LateMoves", spec := "lateMoves", apart := false }
def LateMovesSaid : Prop := lateMovesRow.holds Try.pinned (OpenSpec.ofChange lateMovesSpec)

/-- ITS FALSE NEIGHBOUR: 'it returns false'. Refute it at one input. -/
def lateMovesWrong : ChangeSpec := { name := "lateMoves", fn := fun _ => fun
  | [d1, d2, d3] => { results := [.lit (.bool false)], args := [d1, d2, d3] }
  | _ => none }
def LateMovesWrongFalsely : Prop := lateMovesRow.holds Try.pinned (OpenSpec.ofChange lateMovesWrong)

/- THE SECOND FORM. 'bulk': how many values and letters a reading holds, each counted each time it is reached (what is shared counts as often as it is met; a slice's spare places count too). A statement '..UptoSaid' is the law's where the arguments, and the package variables that the reading takes, are together of bulk at most 1048576: NARROWER than '..Said'. Prove '..Said' where nothing that the law and all that it calls make is longer than what came in: it says more and counts as full. Else prove '..UptoSaid'. A law counts once. -/
mutual
def uptoBulk {H : Type} : DataW H → Nat
  | .lit (.string bytes) => bytes.length + 1
  | .lit _ => 1
  | .nil => 1
  | .ptr d => uptoBulk d + 1
  | .slice elems spare => uptoBulkAll elems + uptoBulkAll spare + 1
  | .agg parts => uptoBulkAll parts + 1
  | .iface _ d => uptoBulk d + 1
  | .map entries => uptoBulkEntries entries + 1
  | .held _ => 1
def uptoBulkAll {H : Type} : List (DataW H) → Nat
  | [] => 0
  | d :: r => uptoBulk d + uptoBulkAll r
def uptoBulkEntries {H : Type} : List (Lit × DataW H) → Nat
  | [] => 0
  | x :: r => uptoBulkEntry x + uptoBulkEntries r
def uptoBulkEntry {H : Type} : Lit × DataW H → Nat
  | (.string bytes, d) => bytes.length + uptoBulk d + 1
  | (_, d) => uptoBulk d + 1
 end
def uptoSmall : (H : Type) → List (DataW H) → Bool := fun _ ds => decide (uptoBulkAll ds ≤ 1048576)
def OpenSpec.upto (s : _root_.Go.ChangeSpec) : _root_.Go.OpenSpec := { _root_.Go.OpenSpec.ofChange s with cond := some uptoSmall }

/-- 'cascadelaw10.LateRuns', WHERE WHAT IT READS IS OF BULK AT MOST 1048576: true; the input reads as it did. -/
def lateRunsUptoRow : OpenClaim := { program := "ytbppaomenhdjeaa", sum := "4a520f5efe1b6cc9f967ad0c80f7d90614e46cdec4ef985256c796bb2e7dc9b6", func := "cascade/cascadelaw10.LateRuns", spec := "lateRuns", apart := false, narrowed := true }
def LateRunsUptoSaid : Prop := lateRunsUptoRow.holds Try.pinned (OpenSpec.upto lateRunsSpec)

/-- 'cascadelaw10.LateBuckets', WHERE WHAT IT READS IS OF BULK AT MOST 1048576: true; the input reads as it did. -/
def lateBucketsUptoRow : OpenClaim := { program := "ytbppaomenhdjeaa", sum := "4a520f5efe1b6cc9f967ad0c80f7d90614e46cdec4ef985256c796bb2e7dc9b6", func := "cascade/cascadelaw10.LateBuckets", spec := "lateBuckets", apart := false, narrowed := true }
def LateBucketsUptoSaid : Prop := lateBucketsUptoRow.holds Try.pinned (OpenSpec.upto lateBucketsSpec)

/-- 'cascadelaw10.LateRatios', WHERE WHAT IT READS IS OF BULK AT MOST 1048576: true; the input reads as it did. -/
def lateRatiosUptoRow : OpenClaim := { program := "ytbppaomenhdjeaa", sum := "4a520f5efe1b6cc9f967ad0c80f7d90614e46cdec4ef985256c796bb2e7dc9b6", func := "cascade/cascadelaw10.LateRatios", spec := "lateRatios", apart := false, narrowed := true }
def LateRatiosUptoSaid : Prop := lateRatiosUptoRow.holds Try.pinned (OpenSpec.upto lateRatiosSpec)

/-- 'cascadelaw10.LateMoves', WHERE WHAT IT READS IS OF BULK AT MOST 1048576: true; the input reads as it did. -/
def lateMovesUptoRow : OpenClaim := { program := "ytbppaomenhdjeaa", sum := "4a520f5efe1b6cc9f967ad0c80f7d90614e46cdec4ef985256c796bb2e7dc9b6", func := "cascade/cascadelaw10.LateMoves", spec := "lateMoves", apart := false, narrowed := true }
def LateMovesUptoSaid : Prop := lateMovesUptoRow.holds Try.pinned (OpenSpec.upto lateMovesSpec)

end Rows
end Go.Proofs.Ytbppaomenhdjeaa
