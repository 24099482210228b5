/-
  Package late, plain: one loan of a row turned, and what the buckets come to; a row that the call owns, one cell turned.
-/
import Derived.Test.YtbppaomenhdjeaaLateG
import Derived.Test.YtbppaomenhdjeaaFlat
import Derived.Laws.OwnMore
namespace Go.Proofs.Ytbppaomenhdjeaa
open Go.RowKit

theorem sumBy_set {α : Type} (f : α → Int) : ∀ (xs : List α) (k : Nat) (x y : α), xs[k]? = some x → sumBy f (xs.set k y) = sumBy f xs - f x + f y
  | [], _, _, _, h => by simp at h
  | z :: r, 0, x, y, h => by
    simp only [List.getElem?_cons_zero, Option.some.injEq] at h
    subst h
    simp [sumBy]
    omega
  | z :: r, k + 1, x, y, h => by
    simp only [List.getElem?_cons_succ] at h
    have ih := sumBy_set f r k x y h
    have e1 : sumBy f ((z :: r).set (k + 1) y) = f z + sumBy f (r.set k y) := by simp [sumBy]
    have e2 : sumBy f (z :: r) = f z + sumBy f r := by simp [sumBy]
    rw [e1, e2, ih]
    omega
/-- One loan turned. -/
theorem bkts_set (xs : List LoanP) (k : Nat) (x y : LoanP) (h : xs[k]? = some x) : bkts (xs.set k y) = ⟨(bkts xs).a - x.bk.a + y.bk.a, (bkts xs).b - x.bk.b + y.bk.b, (bkts xs).c - x.bk.c + y.bk.c, (bkts xs).d - x.bk.d + y.bk.d⟩ := by
  unfold bkts
  simp only
  rw [sumBy_set _ xs k x y h, sumBy_set _ xs k x y h, sumBy_set _ xs k x y h, sumBy_set _ xs k x y h]
/-- How a loan moves that is a month later. -/
inductive Moved (X Y : BkT) (b : Int) : Prop where
  | stay (h : Y = X)
  | ab (h : Y = ⟨X.a - b, X.b + b, X.c, X.d⟩)
  | bc (h : Y = ⟨X.a, X.b - b, X.c + b, X.d⟩)
  | cd (h : Y = ⟨X.a, X.b, X.c - b, X.d + b⟩)
theorem moved_of (xs : List LoanP) (k : Nat) (b m : Int) (h : xs[k]? = some ⟨0, b, 0, m, false⟩) (m0 : 0 ≤ m) : Moved (bkts xs) (bkts (xs.set k ⟨0, b, 0, m + 1, false⟩)) b := by
  rw [bkts_set xs k _ _ h]
  unfold LoanP.bk
  simp only
  rcases (show m = 0 ∨ m = 1 ∨ m = 2 ∨ (3 ≤ m ∧ m ≤ 4) ∨ m = 5 ∨ 6 ≤ m by omega) with h | h | h | h | h | h
  · subst h; exact .ab (by simp)
  · subst h; exact .stay (by simp)
  · subst h; exact .bc (by simp)
  · rw [if_neg (by omega), if_neg (by omega), if_pos (by omega), if_neg (by omega), if_neg (by omega), if_pos (by omega)]
    exact .stay (BkT.ext (by simp only; omega) (by simp only; omega) (by simp only; omega) (by simp only; omega))
  · subst h; exact .cd (by simp)
  · rw [if_neg (by omega), if_neg (by omega), if_neg (by omega), if_neg (by omega), if_neg (by omega), if_neg (by omega)]
    exact .stay (BkT.ext (by simp only; omega) (by simp only; omega) (by simp only; omega) (by simp only; omega))
/-- What moved, of the first j. -/
def mvd (X Y : BkT) : Nat → Int
  | 0 => 0
  | j + 1 => if 0 < Y.at j - X.at j then mvd X Y j + (Y.at j - X.at j) else mvd X Y j
theorem mvd_four {X Y : BkT} {b : Int} (h : Moved X Y b) (b0 : 0 ≤ b) : mvd X Y 4 = 0 ∨ mvd X Y 4 = b := by
  obtain ⟨a, c, d, e⟩ := X
  rcases h with h | h | h | h
  all_goals
    subst h
    simp only [mvd, BkT.at]
    simp
    repeat' split
    all_goals omega
theorem mvd_bd {X Y : BkT} {B : Int} (hX : X.Bd B) (hY : Y.Bd B) (hB : 0 ≤ B) : ∀ j : Nat, 0 ≤ mvd X Y j ∧ mvd X Y j ≤ j * B
  | 0 => by simp [mvd]
  | j + 1 => by
    have ih := mvd_bd hX hY hB j
    have a := hX.at j
    have b := hY.at j
    have e : ((j + 1 : Nat) : Int) * B = j * B + B := by rw [Int.natCast_add, Int.add_mul]; simp
    rw [mvd, e]
    split <;> omega
theorem Moved.all {X Y : BkT} {b : Int} (h : Moved X Y b) : Y.all = X.all := by
  rcases h with rfl | rfl | rfl | rfl <;> simp only [BkT.all] <;> omega
theorem Moved.from {X Y : BkT} {b : Int} (h : Moved X Y b) (b0 : 0 ≤ b) (k : Int) : X.from k ≤ Y.from k := by
  rcases h with rfl | rfl | rfl | rfl <;> simp only [BkT.from] <;> (repeat' split) <;> omega
/-- One paid off. -/
theorem all_off (xs : List LoanP) (k : Nat) (x : LoanP) (m : Int) (h : xs[k]? = some x) : (bkts (xs.set k ⟨0, 0, 0, m, false⟩)).all = (bkts xs).all - x.bal := by
  rw [bkts_all, bkts_all, sumBy_set _ xs k x _ h]
  simp
theorem set_ok {xs : List LoanP} {B : Int} (k : Nat) (y : LoanP) (h : ∀ x ∈ xs, 0 ≤ x.bal ∧ x.bal ≤ B) (hy : 0 ≤ y.bal ∧ y.bal ≤ B) : ∀ x ∈ xs.set k y, 0 ≤ x.bal ∧ x.bal ≤ B := by
  intro x hx
  rcases List.mem_or_eq_of_mem_set hx with h1 | h1
  · exact h x h1
  · subst h1; exact hy
/-- A row that the call owns, one cell of one loan turned. -/
theorem own_turn {w : World} {base g cap n : Nat} {e : TypeId} {xs : List LoanP} {i j : Nat} {x x' : LoanP} {u : Value} (h : w.ownsRow base e 5 (.slice (some ⟨g, 0, none⟩) n cap) n (xs.flatMap LoanP.f)) (hx : xs[i]? = some x) (hf : x'.f = x.f.set j u) (hj : j < 5) :
    (w.setCell ⟨g, i * 5 + j, none⟩ u).ownsRow base e 5 (.slice (some ⟨g, 0, none⟩) n cap) n ((xs.set i x').flatMap LoanP.f) := by
  have := (h.stored (i * 5 + j) u).1
  rw [flat_set LoanP.len hf hj xs i hx] at this
  exact this
/-- A cell of one loan of a row that the call owns. -/
theorem own_at {w : World} {base g cap n : Nat} {e : TypeId} {xs : List LoanP} {i j : Nat} {x : LoanP} {u : Value} (h : w.ownsRow base e 5 (.slice (some ⟨g, 0, none⟩) n cap) n (xs.flatMap LoanP.f)) (hn : xs.length = n) (hx : xs[i]? = some x) (hj : x.f[j]? = some u) : w.cell? ⟨g, i * 5 + j, none⟩ = some u := by
  have hi : i < n := by rw [← hn]; exact (List.getElem?_eq_some_iff.1 hx).1
  have hj5 : j < 5 := by rw [← LoanP.len x]; exact (List.getElem?_eq_some_iff.1 hj).1
  rw [h.cellAt (i * 5 + j) (by have : (i + 1) * 5 ≤ n * 5 := Nat.mul_le_mul_right 5 hi; omega), flat_at LoanP.len xs i j x hx hj5]
  exact hj
theorem mkLs_at (g : Nat → LoanP) (n i : Nat) (h : i < n) : (mkLs g n)[i]? = some (g i) := by simp [mkLs, h]
end Go.Proofs.Ytbppaomenhdjeaa
