/-
  Package tape: a right tape with one line turned is none; a row of lines with one cell turned (plain, and of memory).
-/
import Derived.Test.YtibakfhalabdaaaTapeF
import Derived.Laws.OwnMore
namespace Go.Proofs.Ytibakfhalabdaaa
open Go.RowKit

/-- One cell of one element turned, in the flat row. -/
theorem flat_set {α : Type} {m : Nat} {f : α → List Value} (hl : ∀ x, (f x).length = m) {x x' : α} {j : Nat} {u : Value} (hf : f x' = (f x).set j u) (hj : j < m) : ∀ (xs : List α) (i : Nat), xs[i]? = some x → (xs.flatMap f).set (i * m + j) u = (xs.set i x').flatMap f
  | [], i, h => by simp at h
  | y :: r, 0, h => by
    simp at h
    subst h
    rw [Nat.zero_mul, Nat.zero_add, List.flatMap_cons, List.set_cons_zero, List.flatMap_cons, hf, List.set_append_left _ _ (by rw [hl]; exact hj)]
  | y :: r, i + 1, h => by
    simp at h
    rw [List.flatMap_cons, List.set_cons_succ, List.flatMap_cons, List.set_append_right _ _ (by rw [hl, Nat.succ_mul]; omega), hl, ← flat_set hl hf hj r i h]
    congr 2
    rw [Nat.succ_mul]
    omega
/-- A row that the call owns, one cell of one line turned. -/
theorem own_turn {w : World} {base g cap n : Nat} {e : TypeId} {xs : List LineT} {i j : Nat} {x x' : LineT} {u : Value} (h : w.ownsRow base e 7 (.slice (some ⟨g, 0, none⟩) n cap) n (xs.flatMap LineT.f)) (hx : xs[i]? = some x) (hf : x'.f = x.f.set j u) (hj : j < 7) :
    (w.setCell ⟨g, i * 7 + j, none⟩ u).ownsRow base e 7 (.slice (some ⟨g, 0, none⟩) n cap) n ((xs.set i x').flatMap LineT.f) := by
  have := (h.stored (i * 7 + j) u).1
  rw [flat_set LineT.len hf hj xs i hx] at this
  exact this
/-- A cell of one line of a row that the call owns. -/
theorem own_at {w : World} {base g cap n : Nat} {e : TypeId} {xs : List LineT} {i j : Nat} {x : LineT} {u : Value} (h : w.ownsRow base e 7 (.slice (some ⟨g, 0, none⟩) n cap) n (xs.flatMap LineT.f)) (hn : xs.length = n) (hx : xs[i]? = some x) (hj : x.f[j]? = some u) : w.cell? ⟨g, i * 7 + j, none⟩ = some u := by
  have hi : i < n := by rw [← hn]; exact (List.getElem?_eq_some_iff.1 hx).1
  have hj7 : j < 7 := by rw [← LineT.len x]; exact (List.getElem?_eq_some_iff.1 hj).1
  rw [h.cellAt (i * 7 + j) (by have : (i + 1) * 7 ≤ n * 7 := Nat.mul_le_mul_right 7 hi; omega), flat_at LineT.len xs i j x hx hj7]
  exact hj

/-- A line that may not be, anywhere. -/
theorem right_bad : ∀ (xs : List LineT) (a : Int) (i : Nat) (x' : LineT), i < xs.length → x'.ok = false → rightFrom a (xs.set i x') = false
  | [], _, _, _, h, _ => by simp at h
  | y :: r, a, 0, x', _, h => by rw [List.set_cons_zero, rightFrom, h]; simp
  | y :: r, a, i + 1, x', hi, h => by
    rw [List.set_cons_succ, rightFrom, right_bad r y.id i x' (by simpa using hi) h]
    simp
/-- An Id that isn't above the one ahead. -/
theorem right_low : ∀ (xs : List LineT) (a : Int) (x' : LineT), 0 < xs.length → x'.id ≤ a → rightFrom a (xs.set 0 x') = false
  | [], _, _, h, _ => by simp at h
  | y :: r, a, x', _, h => by rw [List.set_cons_zero, rightFrom, decide_eq_false (by omega)]; simp
theorem right_same : ∀ (xs : List LineT) (a : Int) (k : Nat) (x' y : LineT), k + 1 < xs.length → xs[k]? = some y → x'.id ≤ y.id → rightFrom a (xs.set (k + 1) x') = false
  | [], _, _, _, _, h, _, _ => by simp at h
  | z :: r, a, 0, x', y, hk, hy, h => by
    simp at hy
    subst hy
    rw [List.set_cons_succ, rightFrom, right_low r z.id x' (by simpa using hk) h]
    simp
  | z :: r, a, k + 1, x', y, hk, hy, h => by
    rw [List.set_cons_succ, rightFrom, right_same r z.id k x' y (by simpa using hk) (by simpa using hy) h]
    simp
theorem rightT_no {xs : List LineT} (h : rightFrom 0 xs = false) : rightT xs = false := by unfold rightT; rw [h]; simp
theorem rightT_yes {xs : List LineT} (hl : xs.length ≤ 12) (h : rightFrom 0 xs = true) : rightT xs = true := by unfold rightT; rw [h, decide_eq_true (by omega)]; rfl
theorem rightT_long {xs : List LineT} (hl : 64 < xs.length) : rightT xs = false := by unfold rightT; rw [decide_eq_false (by omega)]; rfl
/-- A line with a number that may not be. -/
theorem ok_no {x : LineT} (h : ¬ (x.Am ∧ 0 ≤ x.lt ∧ x.lt ≤ 12)) : x.ok = false := by
  cases e : x.ok with
  | false => rfl
  | true => exact absurd ((LineT.ok_iff x).1 e) h
/-- What Right tells of a line turned. -/
theorem turn_bad {xs : List LineT} {i : Nat} {x' : LineT} (hi : i < xs.length) (h : ¬ (x'.Am ∧ 0 ≤ x'.lt ∧ x'.lt ≤ 12)) : rightT (xs.set i x') = false := rightT_no (right_bad xs 0 i x' hi (ok_no h))
end Go.Proofs.Ytibakfhalabdaaa
