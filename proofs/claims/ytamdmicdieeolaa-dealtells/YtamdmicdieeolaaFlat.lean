/-
  Elements in a row, one cell of one of them turned.
-/
import Derived.Test.YtamdmicdieeolaaLies
namespace Go.Proofs.Ytamdmicdieeolaa
open Go.RowKit

/-- One cell of one element turned, in the flat row. -/
theorem flat_set {α : Type} {m : Nat} {f : α → List Value} (hl : ∀ x, (f x).length = m) {x x' : α} {j : Nat} {u : Value} (hf : f x' = (f x).set j u) (hj : j < m) : ∀ (xs : List α) (i : Nat), xs[i]? = some x → (xs.flatMap f).set (i * m + j) u = (xs.set i x').flatMap f
  | [], i, h => by simp at h
  | y :: r, 0, h => by
    simp at h
    subst h
    rw [Nat.zero_mul, Nat.zero_add, List.flatMap_cons, List.set_cons_zero, List.flatMap_cons, hf, List.set_append_left _ _ (by rw [hl]; exact hj)]
  | y :: r, i + 1, h => by
    simp at h
    rw [List.flatMap_cons, List.set_cons_succ, List.flatMap_cons, List.set_append_right _ _ (by rw [hl, Nat.succ_mul]; omega), hl, ← flat_set hl hf hj r i h]
    congr 2
    rw [Nat.succ_mul]
    omega
end Go.Proofs.Ytamdmicdieeolaa
