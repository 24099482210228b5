/-
  Sums over a list, and whether each sum on the way is an int (plain).
-/
import Derived.Test.YtbppaomenhdjeaaBase
namespace Go.Proofs.Ytbppaomenhdjeaa

/-- The sum of what g tells of each. -/
def sumBy {α : Type} (g : α → Int) (xs : List α) : Int := (xs.map g).sum
theorem sumBy_nil {α : Type} (g : α → Int) : sumBy g [] = 0 := rfl
theorem sumBy_append {α : Type} (g : α → Int) (xs ys : List α) : sumBy g (xs ++ ys) = sumBy g xs + sumBy g ys := by simp [sumBy]
theorem sumBy_next {α : Type} (g : α → Int) (xs : List α) (k : Nat) (x : α) (h : xs[k]? = some x) : sumBy g (xs.take (k + 1)) = sumBy g (xs.take k) + g x := by
  obtain ⟨hk, rfl⟩ := List.getElem?_eq_some_iff.1 h
  rw [List.take_succ_eq_append_getElem hk, sumBy_append]
  simp [sumBy]
/-- Each sum on the way is an int. -/
def SumFits {α : Type} (g : α → Int) (xs : List α) : Prop := ∀ k, -9223372036854775808 ≤ sumBy g (xs.take k) ∧ sumBy g (xs.take k) ≤ 9223372036854775807
theorem sumBy_le {α : Type} (g : α → Int) (B : Int) : ∀ xs : List α, (∀ x ∈ xs, 0 ≤ g x ∧ g x ≤ B) → 0 ≤ sumBy g xs ∧ sumBy g xs ≤ xs.length * B
  | [], _ => by simp [sumBy]
  | x :: r, h => by
    have h1 := h x (by simp)
    have h2 := sumBy_le g B r (fun y hy => h y (by simp [hy]))
    have e : sumBy g (x :: r) = g x + sumBy g r := by simp [sumBy]
    rw [e, List.length_cons, Int.natCast_add, Int.add_mul]
    simp
    omega
theorem SumFits.of {α : Type} {g : α → Int} {xs : List α} (B : Int) (h : ∀ x ∈ xs, 0 ≤ g x ∧ g x ≤ B) (hB : xs.length * B ≤ 9223372036854775807) (b0 : 0 ≤ B) : SumFits g xs := by
  intro k
  have h1 := sumBy_le g B (xs.take k) (fun x hx => h x (List.mem_of_mem_take hx))
  have h2 : ((xs.take k).length : Int) * B ≤ xs.length * B := Int.mul_le_mul_of_nonneg_right (by rw [List.length_take]; omega) b0
  omega
end Go.Proofs.Ytbppaomenhdjeaa
