/-
  Package tape: the walk of Sum.
-/
import Derived.Test.YtoijgognbfifbaaLine
namespace Go.Proofs.Ytoijgognbfifbaa
open Go.RowKit

/-- One line of a slice, as it lies there. -/
theorem Lies.line {w : World} {a : Option Addr} {n cap : Nat} {xs : List LineT} (h : Lies 7 LineT.f w (.slice a n cap) xs) (k : Nat) (hk : k < n) :
    ∃ b off x, a = some ⟨b, off, none⟩ ∧ xs[k]? = some x ∧ x ∈ xs ∧ w.cell? ⟨b, off + k * 7, none⟩ = some (.int .i64 x.id) ∧ w.cell? ⟨b, off + k * 7 + 1, none⟩ = some (.int .i64 x.pr) ∧ w.cell? ⟨b, off + k * 7 + 2, none⟩ = some (.int .i64 x.pp) ∧ w.cell? ⟨b, off + k * 7 + 3, none⟩ = some (.int .i64 x.it) ∧ w.cell? ⟨b, off + k * 7 + 4, none⟩ = some (.int .i64 x.rc) ∧ w.cell? ⟨b, off + k * 7 + 5, none⟩ = some (.int .i64 x.lt) ∧ w.cell? ⟨b, off + k * 7 + 6, none⟩ = some (.bool x.df) := by
  obtain ⟨b, off, rfl, hc⟩ := h.place (by omega)
  have hl := h.len
  have hx : xs[k]? = some (xs[k]'(by omega)) := List.getElem?_eq_getElem (by omega)
  have c := hc k _ hx
  have c0 := c 0 _ rfl
  rw [Nat.add_zero] at c0
  exact ⟨b, off, _, rfl, hx, List.getElem_mem _, c0, c 1 _ rfl, c 2 _ rfl, c 3 _ rfl, c 4 _ rfl, c 5 _ rfl, c 6 _ rfl⟩

end Go.Proofs.Ytoijgognbfifbaa
