/-
  A loan as it is handed in (its number, its balance), its cells; one of a slice of them.
-/
import Derived.Test.YtamdmicdieeolaaLies
namespace Go.Proofs.Ytamdmicdieeolaa
open Go.RowKit

/-- A loan as it is handed in. -/
structure LnT where
  id : Int
  bal : Int
def LnT.f (x : LnT) : List Value := [.int .i64 x.id, .int .i64 x.bal]
theorem LnT.len (x : LnT) : x.f.length = 2 := rfl
theorem LnT.one (x : LnT) : ∀ u ∈ x.f, u.oneCell' = true := by
  intro u hu
  simp only [LnT.f, List.mem_cons, List.not_mem_nil, or_false] at hu
  rcases hu with rfl | rfl <;> rfl
/-- One loan of a slice of them, as it lies there. -/
theorem Lies.ln {w : World} {a : Option Addr} {n cap : Nat} {xs : List LnT} (h : Lies 2 LnT.f w (.slice a n cap) xs) (k : Nat) (hk : k < n) :
    ∃ b off x, a = some ⟨b, off, none⟩ ∧ xs[k]? = some x ∧ x ∈ xs ∧ w.cell? ⟨b, off + k * 2, none⟩ = some (.int .i64 x.id) ∧ w.cell? ⟨b, off + k * 2 + 1, none⟩ = some (.int .i64 x.bal) := by
  obtain ⟨b, off, rfl, hc⟩ := h.place (by omega)
  have hl := h.len
  have hx : xs[k]? = some (xs[k]'(by omega)) := List.getElem?_eq_getElem (by omega)
  have c := hc k _ hx
  have c0 := c 0 _ rfl
  rw [Nat.add_zero] at c0
  exact ⟨b, off, _, rfl, hx, List.getElem_mem _, c0, c 1 _ rfl⟩
end Go.Proofs.Ytamdmicdieeolaa
