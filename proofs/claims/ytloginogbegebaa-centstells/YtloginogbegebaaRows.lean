/-
  No cell of these rows narrows 'for every input' (looked for: loops, veiled, ifaces, maps, wideKeys, modest, calm, conditions, laid).
  DERIVED. THE GIVEN ROWS OF THIS SEAT. 5 by the template 'for every input the law returns true; each argument reads behind the call as it read before'; 0 by the template 'total and deterministic' (their statements: YtloginogbegebaaTotals.lean).
  GIVEN WITH THE SEED: the statements are not yours to turn. If you find one false, say at which input.
  Laid BY PROGRAM, IN A SANDBOX (cutbox-rows.mjs): the forced cells as the released guide's own fill.sh prints them over the translation 5fd0de551c651482… (all of the seat's roots in one cut). By AI agents, Wed Nov 11 2026. No macro, syntax, notation, axiom, sorry.
-/
import Derived.Test.YtloginogbegebaaChecked
import GoSem.Claim
import GoSem.ClaimJoined
import GoSem.ClaimMapViews
import Derived.JoinedTies
import Derived.KernelRfl
namespace Go.Proofs.Ytloginogbegebaa
/- THE CELL 'sum', in the pinned program and in every row, IS THE sha256 OF THE DUMP (.gsa) THAT YtloginogbegebaaProg.lean LOADS. Nothing in Lean hashes anything: it is a label: what it is worth is what the hold of that sum in a sandbox is worth. -/
noncomputable def Try.pinned : Pinned := { name := "ytloginogbegebaa", sum := "5fd0de551c651482ff92c50ed993ae3d13e156fc61ddb6f4a6d1ca998628e27b", checked := Try.checked }
namespace Rows
def none {H : Type} : Left H := { results := [], args := [] }

/-- 'cascadelaw1.CentsRuns': WHATEVER THE INPUT: true; the input reads as it did. -/
def centsRunsSpec : ChangeSpec := { name := "centsRuns", fn := fun _ => fun
  | [] => { results := [.lit (.bool true)], args := [] }
  | _ => none }
def centsRunsRow : OpenClaim := { program := "ytloginogbegebaa", sum := "5fd0de551c651482ff92c50ed993ae3d13e156fc61ddb6f4a6d1ca998628e27b", func := "cascade/cascadelaw1.CentsRuns", spec := "centsRuns", named := ["math/bits.divideError", "math/bits.overflowError"], apart := false }
def CentsRunsSaid : Prop := centsRunsRow.holds Try.pinned (OpenSpec.ofChange centsRunsSpec)

/-- ITS FALSE NEIGHBOUR: 'it returns false'. Refute it at one input. -/
def centsRunsWrong : ChangeSpec := { name := "centsRuns", fn := fun _ => fun
  | [] => { results := [.lit (.bool false)], args := [] }
  | _ => none }
def CentsRunsWrongFalsely : Prop := centsRunsRow.holds Try.pinned (OpenSpec.ofChange centsRunsWrong)

/-- 'cascadelaw1.CentsTells': WHATEVER THE INPUT: true; the input reads as it did. -/
def centsTellsSpec : ChangeSpec := { name := "centsTells", fn := fun _ => fun
  | [d1, d2, d3, d4, d5] => { results := [.lit (.bool true)], args := [d1, d2, d3, d4, d5] }
  | _ => none }
def centsTellsRow : OpenClaim := { program := "ytloginogbegebaa", sum := "5fd0de551c651482ff92c50ed993ae3d13e156fc61ddb6f4a6d1ca998628e27b", func := "cascade/cascadelaw1.CentsTells", spec := "centsTells", named := ["math/bits.divideError", "math/bits.overflowError"], apart := false }
def CentsTellsSaid : Prop := centsTellsRow.holds Try.pinned (OpenSpec.ofChange centsTellsSpec)

/-- ITS FALSE NEIGHBOUR: 'it returns false'. Refute it at one input. -/
def centsTellsWrong : ChangeSpec := { name := "centsTells", fn := fun _ => fun
  | [d1, d2, d3, d4, d5] => { results := [.lit (.bool false)], args := [d1, d2, d3, d4, d5] }
  | _ => none }
def CentsTellsWrongFalsely : Prop := centsTellsRow.holds Try.pinned (OpenSpec.ofChange centsTellsWrong)

/-- 'cascadelaw1.CentsRound': WHATEVER THE INPUT: true; the input reads as it did. -/
def centsRoundSpec : ChangeSpec := { name := "centsRound", fn := fun _ => fun
  | [d1, d2, d3] => { results := [.lit (.bool true)], args := [d1, d2, d3] }
  | _ => none }
def centsRoundRow : OpenClaim := { program := "ytloginogbegebaa", sum := "5fd0de551c651482ff92c50ed993ae3d13e156fc61ddb6f4a6d1ca998628e27b", func := "cascade/cascadelaw1.CentsRound", spec := "centsRound", named := ["math/bits.divideError", "math/bits.overflowError"], apart := false }
def CentsRoundSaid : Prop := centsRoundRow.holds Try.pinned (OpenSpec.ofChange centsRoundSpec)

/-- ITS FALSE NEIGHBOUR: 'it returns false'. Refute it at one input. -/
def centsRoundWrong : ChangeSpec := { name := "centsRound", fn := fun _ => fun
  | [d1, d2, d3] => { results := [.lit (.bool false)], args := [d1, d2, d3] }
  | _ => none }
def CentsRoundWrongFalsely : Prop := centsRoundRow.holds Try.pinned (OpenSpec.ofChange centsRoundWrong)

/-- 'cascadelaw1.CentsSums': WHATEVER THE INPUT: true; the input reads as it did. -/
def centsSumsSpec : ChangeSpec := { name := "centsSums", fn := fun _ => fun
  | [d1, d2] => { results := [.lit (.bool true)], args := [d1, d2] }
  | _ => none }
def centsSumsRow : OpenClaim := { program := "ytloginogbegebaa", sum := "5fd0de551c651482ff92c50ed993ae3d13e156fc61ddb6f4a6d1ca998628e27b", func := "cascade/cascadelaw1.CentsSums", spec := "centsSums", named := ["math/bits.divideError", "math/bits.overflowError"], apart := false }
def CentsSumsSaid : Prop := centsSumsRow.holds Try.pinned (OpenSpec.ofChange centsSumsSpec)

/-- ITS FALSE NEIGHBOUR: 'it returns false'. Refute it at one input. -/
def centsSumsWrong : ChangeSpec := { name := "centsSums", fn := fun _ => fun
  | [d1, d2] => { results := [.lit (.bool false)], args := [d1, d2] }
  | _ => none }
def CentsSumsWrongFalsely : Prop := centsSumsRow.holds Try.pinned (OpenSpec.ofChange centsSumsWrong)

/-- 'cascadelaw1.CentsParts': WHATEVER THE INPUT: true; the input reads as it did. -/
def centsPartsSpec : ChangeSpec := { name := "centsParts", fn := fun _ => fun
  | [d1, d2, d3, d4, d5] => { results := [.lit (.bool true)], args := [d1, d2, d3, d4, d5] }
  | _ => none }
def centsPartsRow : OpenClaim := { program := "ytloginogbegebaa", sum := "5fd0de551c651482ff92c50ed993ae3d13e156fc61ddb6f4a6d1ca998628e27b", func := "cascade/cascadelaw1.CentsParts", spec := "centsParts", named := ["math/bits.divideError", "math/bits.overflowError"], apart := false }
def CentsPartsSaid : Prop := centsPartsRow.holds Try.pinned (OpenSpec.ofChange centsPartsSpec)

/-- ITS FALSE NEIGHBOUR: 'it returns false'. Refute it at one input. -/
def centsPartsWrong : ChangeSpec := { name := "centsParts", fn := fun _ => fun
  | [d1, d2, d3, d4, d5] => { results := [.lit (.bool false)], args := [d1, d2, d3, d4, d5] }
  | _ => none }
def CentsPartsWrongFalsely : Prop := centsPartsRow.holds Try.pinned (OpenSpec.ofChange centsPartsWrong)

/- THE SECOND FORM. 'bulk': how many values and letters a reading holds, each counted each time it is reached (what is shared counts as often as it is met; a slice's spare places count too). A statement '..UptoSaid' is the law's where the arguments, and the package variables that the reading takes, are together of bulk at most 1048576: NARROWER than '..Said'. Prove '..Said' where nothing that the law and all that it calls make is longer than what came in: it says more and counts as full. Else prove '..UptoSaid'. A law counts once. -/
mutual
def uptoBulk {H : Type} : DataW H → Nat
  | .lit (.string bytes) => bytes.length + 1
  | .lit _ => 1
  | .nil => 1
  | .ptr d => uptoBulk d + 1
  | .slice elems spare => uptoBulkAll elems + uptoBulkAll spare + 1
  | .agg parts => uptoBulkAll parts + 1
  | .iface _ d => uptoBulk d + 1
  | .map entries => uptoBulkEntries entries + 1
  | .held _ => 1
def uptoBulkAll {H : Type} : List (DataW H) → Nat
  | [] => 0
  | d :: r => uptoBulk d + uptoBulkAll r
def uptoBulkEntries {H : Type} : List (Lit × DataW H) → Nat
  | [] => 0
  | x :: r => uptoBulkEntry x + uptoBulkEntries r
def uptoBulkEntry {H : Type} : Lit × DataW H → Nat
  | (.string bytes, d) => bytes.length + uptoBulk d + 1
  | (_, d) => uptoBulk d + 1
 end
def uptoSmall : (H : Type) → List (DataW H) → Bool := fun _ ds => decide (uptoBulkAll ds ≤ 1048576)
def OpenSpec.upto (s : _root_.Go.ChangeSpec) : _root_.Go.OpenSpec := { _root_.Go.OpenSpec.ofChange s with cond := some uptoSmall }

/-- 'cascadelaw1.CentsRuns', WHERE WHAT IT READS IS OF BULK AT MOST 1048576: true; the input reads as it did. -/
def centsRunsUptoRow : OpenClaim := { program := "ytloginogbegebaa", sum := "5fd0de551c651482ff92c50ed993ae3d13e156fc61ddb6f4a6d1ca998628e27b", func := "cascade/cascadelaw1.CentsRuns", spec := "centsRuns", named := ["math/bits.divideError", "math/bits.overflowError"], apart := false, narrowed := true }
def CentsRunsUptoSaid : Prop := centsRunsUptoRow.holds Try.pinned (OpenSpec.upto centsRunsSpec)

/-- 'cascadelaw1.CentsTells', WHERE WHAT IT READS IS OF BULK AT MOST 1048576: true; the input reads as it did. -/
def centsTellsUptoRow : OpenClaim := { program := "ytloginogbegebaa", sum := "5fd0de551c651482ff92c50ed993ae3d13e156fc61ddb6f4a6d1ca998628e27b", func := "cascade/cascadelaw1.CentsTells", spec := "centsTells", named := ["math/bits.divideError", "math/bits.overflowError"], apart := false, narrowed := true }
def CentsTellsUptoSaid : Prop := centsTellsUptoRow.holds Try.pinned (OpenSpec.upto centsTellsSpec)

/-- 'cascadelaw1.CentsRound', WHERE WHAT IT READS IS OF BULK AT MOST 1048576: true; the input reads as it did. -/
def centsRoundUptoRow : OpenClaim := { program := "ytloginogbegebaa", sum := "5fd0de551c651482ff92c50ed993ae3d13e156fc61ddb6f4a6d1ca998628e27b", func := "cascade/cascadelaw1.CentsRound", spec := "centsRound", named := ["math/bits.divideError", "math/bits.overflowError"], apart := false, narrowed := true }
def CentsRoundUptoSaid : Prop := centsRoundUptoRow.holds Try.pinned (OpenSpec.upto centsRoundSpec)

/-- 'cascadelaw1.CentsSums', WHERE WHAT IT READS IS OF BULK AT MOST 1048576: true; the input reads as it did. -/
def centsSumsUptoRow : OpenClaim := { program := "ytloginogbegebaa", sum := "5fd0de551c651482ff92c50ed993ae3d13e156fc61ddb6f4a6d1ca998628e27b", func := "cascade/cascadelaw1.CentsSums", spec := "centsSums", named := ["math/bits.divideError", "math/bits.overflowError"], apart := false, narrowed := true }
def CentsSumsUptoSaid : Prop := centsSumsUptoRow.holds Try.pinned (OpenSpec.upto centsSumsSpec)

/-- 'cascadelaw1.CentsParts', WHERE WHAT IT READS IS OF BULK AT MOST 1048576: true; the input reads as it did. -/
def centsPartsUptoRow : OpenClaim := { program := "ytloginogbegebaa", sum := "5fd0de551c651482ff92c50ed993ae3d13e156fc61ddb6f4a6d1ca998628e27b", func := "cascade/cascadelaw1.CentsParts", spec := "centsParts", named := ["math/bits.divideError", "math/bits.overflowError"], apart := false, narrowed := true }
def CentsPartsUptoSaid : Prop := centsPartsUptoRow.holds Try.pinned (OpenSpec.upto centsPartsSpec)

end Rows
end Go.Proofs.Ytloginogbegebaa
