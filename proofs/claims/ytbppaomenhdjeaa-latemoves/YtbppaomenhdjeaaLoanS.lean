/-
  A loan of a pool, its cells; one of a slice of them.
-/
import Derived.Test.YtbppaomenhdjeaaLies
namespace Go.Proofs.Ytbppaomenhdjeaa
open Go.RowKit

/-- A loan of a pool. -/
structure LoanP where
  id : Int
  bal : Int
  lost : Int
  late : Int
  over : Bool
def LoanP.f (x : LoanP) : List Value := [.int .i64 x.id, .int .i64 x.bal, .int .i64 x.lost, .int .i64 x.late, .bool x.over]
theorem LoanP.len (x : LoanP) : x.f.length = 5 := rfl
theorem LoanP.one (x : LoanP) : ∀ u ∈ x.f, u.oneCell' = true := by
  intro u hu
  simp only [LoanP.f, List.mem_cons, List.not_mem_nil, or_false] at hu
  rcases hu with rfl | rfl | rfl | rfl | rfl <;> rfl
def LoanP.v (x : LoanP) : Value := .agg #[.int .i64 x.id, .int .i64 x.bal, .int .i64 x.lost, .int .i64 x.late, .bool x.over]
/-- One loan of a slice, as it lies there. -/
theorem Lies.loan {w : World} {a : Option Addr} {n cap : Nat} {xs : List LoanP} (h : Lies 5 LoanP.f w (.slice a n cap) xs) (k : Nat) (hk : k < n) :
    ∃ b off x, a = some ⟨b, off, none⟩ ∧ xs[k]? = some x ∧ x ∈ xs ∧ w.cell? ⟨b, off + k * 5, none⟩ = some (.int .i64 x.id) ∧ w.cell? ⟨b, off + k * 5 + 1, none⟩ = some (.int .i64 x.bal) ∧ w.cell? ⟨b, off + k * 5 + 2, none⟩ = some (.int .i64 x.lost) ∧ w.cell? ⟨b, off + k * 5 + 3, none⟩ = some (.int .i64 x.late) ∧ w.cell? ⟨b, off + k * 5 + 4, none⟩ = some (.bool x.over) := by
  obtain ⟨b, off, rfl, hc⟩ := h.place (by omega)
  have hl := h.len
  have hx : xs[k]? = some (xs[k]'(by omega)) := List.getElem?_eq_getElem (by omega)
  have c := hc k _ hx
  have c0 := c 0 _ rfl
  rw [Nat.add_zero] at c0
  exact ⟨b, off, _, rfl, hx, List.getElem_mem _, c0, c 1 _ rfl, c 2 _ rfl, c 3 _ rfl, c 4 _ rfl⟩
end Go.Proofs.Ytbppaomenhdjeaa
