/-
  A slice of structs of two numbers, as it came in.
-/
import Derived.Test.YtpfoimjmnmlnkaaBase
import Derived.OpenShut
import Derived.Deep.SlicePairs
namespace Go.Proofs.Ytpfoimjmnmlnkaa
open Go.RowKit

/-- A slice of pairs of numbers that came in: each pair is two cells beside each other. -/
def RowP (w : World) (a : Option Addr) (len : Nat) : Prop :=
  len ≤ maxLen ∧ ∀ i, i < len → ∃ b off x n, a = some ⟨b, off, none⟩ ∧ w.cell? ⟨b, off + i * 2, none⟩ = some (.int .i64 x) ∧ w.cell? ⟨b, off + i * 2 + 1, none⟩ = some (.int .i64 n)

theorem RowP.none (w : World) : RowP w none 0 := ⟨Nat.zero_le _, fun _ hi => absurd hi (Nat.not_lt_zero _)⟩
theorem RowP.of {w : World} {a : Addr} {len : Nat} (hm : len ≤ maxLen) (h : ∀ i, i < len → ∃ x n, w.cell? (a.add (i * 2)) = some (.int .i64 x) ∧ w.cell? (a.add (i * 2 + 1)) = some (.int .i64 n)) : RowP w (some a) len := by
  refine ⟨hm, fun i hi => ?_⟩
  obtain ⟨b, off, spot⟩ := a
  obtain ⟨x0, n0, e0, _⟩ := h 0 (by omega)
  have hspot : spot = Option.none := by simpa [Addr.add] using World.cell?_spot e0
  subst hspot
  obtain ⟨x, n, e1, e2⟩ := h i hi
  rw [Go.WideShapes.add_plain] at e1 e2
  exact ⟨b, off, x, n, rfl, e1, by rw [Nat.add_assoc]; exact e2⟩
/-- The same, with the numbers' bounds. -/
def RowPW (w : World) (a : Option Addr) (len : Nat) : Prop :=
  len ≤ maxLen ∧ ∀ i, i < len → ∃ b off x n, a = some ⟨b, off, none⟩ ∧ w.cell? ⟨b, off + i * 2, none⟩ = some (.int .i64 x) ∧ w.cell? ⟨b, off + i * 2 + 1, none⟩ = some (.int .i64 n) ∧ (Lit.int .i64 x).wf = true ∧ (Lit.int .i64 n).wf = true

theorem RowPW.none (w : World) : RowPW w none 0 := ⟨Nat.zero_le _, fun _ hi => absurd hi (Nat.not_lt_zero _)⟩
theorem RowPW.of {w : World} {a : Addr} {len : Nat} (hm : len ≤ maxLen) (h : ∀ i, i < len → ∃ x n, w.cell? (a.add (i * 2)) = some (.int .i64 x) ∧ w.cell? (a.add (i * 2 + 1)) = some (.int .i64 n) ∧ (Lit.int .i64 x).wf = true ∧ (Lit.int .i64 n).wf = true) : RowPW w (some a) len := by
  refine ⟨hm, fun i hi => ?_⟩
  obtain ⟨b, off, x0, n0, ea, _, _⟩ := (RowP.of hm fun j hj => by obtain ⟨x, n, e1, e2, _⟩ := h j hj; exact ⟨x, n, e1, e2⟩).2 i hi
  simp only [Option.some.injEq] at ea
  subst ea
  obtain ⟨x, n, e1, e2, w1, w2⟩ := h i hi
  rw [Go.WideShapes.add_plain] at e1 e2
  exact ⟨b, off, x, n, rfl, e1, by rw [Nat.add_assoc]; exact e2, w1, w2⟩
end Go.Proofs.Ytpfoimjmnmlnkaa
