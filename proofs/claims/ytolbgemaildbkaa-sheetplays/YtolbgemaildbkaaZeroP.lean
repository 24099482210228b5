/-
  Plain facts for SheetZero: moves in turn, and from another one on.
-/
import Derived.Test.YtolbgemaildbkaaPartP
namespace Go.Proofs.Ytolbgemaildbkaa
open Go.RowKit

/-- The entries of the moves of these numbers. -/
def mvs (F T X : Nat → Int) (l : List Nat) : List Ent := l.flatMap fun i => moveE (F i) (T i) (X i)
theorem mvs_append (F T X : Nat → Int) (l k : List Nat) : mvs F T X (l ++ k) = mvs F T X l ++ mvs F T X k := by simp [mvs]
theorem mvs_length (F T X : Nat → Int) : ∀ l : List Nat, (mvs F T X l).length = 2 * l.length
  | [] => rfl
  | i :: r => by
    have := mvs_length F T X r
    rw [mvs, List.flatMap_cons, List.length_append, ← mvs, this, List.length_cons]
    simp [moveE]
    omega
/-- The numbers in turn, from k on. -/
def turn (n k i : Nat) : List Nat := (List.range i).map fun j => (j + k) % n
theorem turn_next (n k i : Nat) : turn n k (i + 1) = turn n k i ++ [(i + k) % n] := by simp [turn, List.range_succ]
theorem turn_length (n k i : Nat) : (turn n k i).length = i := by simp [turn]
theorem turn_all (n k : Nat) (hk : k ≤ n) : turn n k n = (List.range n).drop k ++ (List.range n).take k := by
  apply List.ext_getElem
  · simp [turn]
    omega
  · intro i h1 h2
    have hi : i < n := by simpa [turn] using h1
    rcases Nat.lt_or_ge i (n - k) with h | h
    · rw [List.getElem_append_left (by simp; omega)]
      simp only [turn, List.getElem_map, List.getElem_range, List.getElem_drop]
      rw [Nat.mod_eq_of_lt (by omega)]
      omega
    · rw [List.getElem_append_right (by simp; omega)]
      simp only [turn, List.getElem_map, List.getElem_range, List.getElem_take, List.length_drop, List.length_range]
      rw [show i + k = (i + k - n) + n by omega, Nat.add_mod_right, Nat.mod_eq_of_lt (by omega)]
      omega
theorem turn_zero (n i : Nat) (h : i ≤ n) : turn n 0 i = List.range i := by
  apply List.ext_getElem
  · simp [turn]
  · intro j h1 h2
    have hj : j < i := by simpa using h2
    simp only [turn, List.getElem_map, List.getElem_range, Nat.add_zero]
    exact Nat.mod_eq_of_lt (by omega)

section
variable {F T X : Nat → Int} (hF : ∀ i, 0 ≤ F i ∧ F i < 6) (hT : ∀ i, 0 ≤ T i ∧ T i < 6) (hX : ∀ i, 0 ≤ X i ∧ X i ≤ 1125899906842624)
include hF hT hX
theorem move_small (i : Nat) : Small 6 1125899906842624 (moveE (F i) (T i) (X i)) := by
  intro e he
  have h1 := hF i; have h2 := hT i; have h3 := hX i
  simp only [moveE, List.mem_cons, List.not_mem_nil, or_false] at he
  rcases he with rfl | rfl
  · exact ⟨h1, by simp only; omega, by simp only; omega⟩
  · exact ⟨h2, by simp only; omega, by simp only; omega⟩
theorem mvs_small : ∀ l : List Nat, Small 6 1125899906842624 (mvs F T X l)
  | [] => Small.nil
  | i :: r => by
    rw [mvs, List.flatMap_cons]
    exact (move_small hF hT hX i).append (mvs_small r)
theorem mvs_bd (l : List Nat) (hl : l.length ≤ 25) : ∀ x ∈ addAll (List.replicate 64 0) (mvs F T X l), -56294995342131200 ≤ x ∧ x ≤ 56294995342131200 := fun x hx => by
  have := (mvs_small hF hT hX l).add 0 (zeros_bd 64) (by omega) x hx
  rw [mvs_length] at this
  omega
theorem mvs_ok (l : List Nat) (hl : l.length ≤ 25) : ∀ x ∈ addAll (List.replicate 64 0) (mvs F T X l), amtOk x = true := bd_ok (by omega) (mvs_bd hF hT hX l hl)
/-- One more move may be made. -/
theorem mvs_move (l : List Nat) (hl : l.length < 25) (i : Nat) (c : Int) : moveB 6 (addAll (List.replicate 64 0) (mvs F T X l)) (F i) (T i) (X i) = true ∧ moveL 6 (addAll (List.replicate 64 0) (mvs F T X l)) (F i) (T i) (X i) = addAll (List.replicate 64 0) (mvs F T X (l ++ [i])) ∧ moveC 6 (addAll (List.replicate 64 0) (mvs F T X l)) (F i) (T i) (X i) c = c + 1 := by
  have h3 := hX i
  have hp := (move_small hF hT hX i).posts (bal := addAll (List.replicate 64 0) (mvs F T X l)) (by omega) (by omega) (by simp [moveE]) (by simp [moveE]) (by simp [moveE, sumA]; omega) 56294995342131200 (by omega) (mvs_bd hF hT hX l (by omega)) c
  have hb : moveB 6 (addAll (List.replicate 64 0) (mvs F T X l)) (F i) (T i) (X i) = true := by
    rw [moveB, hp.1]
    simp
    omega
  refine ⟨hb, ?_, by rw [moveC, hb, if_pos rfl]⟩
  rw [moveL, hb, if_pos rfl, mvs_append, addAll_append]
  simp [mvs]
/-- From another one on they come to the same. -/
theorem mvs_turn (n k : Nat) (hk : k ≤ n) : addAll (List.replicate 64 0) (mvs F T X (turn n k n)) = addAll (List.replicate 64 0) (mvs F T X (turn n 0 n)) := by
  refine addAll_same (mvs_small hF hT hX _) (mvs_small hF hT hX _) fun i => ?_
  rw [turn_all n k hk, turn_zero n n (Nat.le_refl _), mvs_append, partA_append, Int.add_comm, ← partA_append, ← mvs_append, List.take_append_drop]
end
theorem addAll_take (m : Nat) : ∀ (es : List Ent) (bal : List Int), (∀ e ∈ es, 0 ≤ e.acc ∧ e.acc < m) → (addAll bal es).take m = addAll (bal.take m) es
  | [], _, _ => rfl
  | e :: r, bal, h => by
    have he := h e (by simp)
    rw [addAll, addAll_take m r _ (fun x hx => h x (by simp [hx])), addAll, List.take_set]
    congr 2
    simp only [List.getD_eq_getElem?_getD, List.getElem?_take]
    rw [if_pos (by omega)]
theorem sum_set (l : List Int) : ∀ (i : Nat) (x : Int), i < l.length → (l.set i x).sum = l.sum - l.getD i 0 + x := by
  induction l with
  | nil => intro i x h; simp at h
  | cons a r ih =>
    intro i x h
    match i with
    | 0 => simp; omega
    | i + 1 =>
      have := ih i x (by simpa using h)
      rw [List.set_cons_succ, List.sum_cons, this, List.sum_cons]
      simp
      omega
theorem addAll_sum : ∀ (es : List Ent) (bal : List Int), (∀ e ∈ es, 0 ≤ e.acc ∧ e.acc < bal.length) → (addAll bal es).sum = bal.sum + sumA es
  | [], bal, _ => by simp [addAll, sumA]
  | e :: r, bal, h => by
    have he := h e (by simp)
    rw [addAll, addAll_sum r _ (fun x hx => by rw [List.length_set]; exact h x (by simp [hx])), sum_set _ _ _ (by omega), sumA_cons]
    omega
theorem mvs_sum (F T X : Nat → Int) : ∀ l : List Nat, sumA (mvs F T X l) = 0
  | [] => rfl
  | i :: r => by
    have := mvs_sum F T X r
    rw [mvs, List.flatMap_cons, sumA_append, ← mvs, this]
    simp [moveE, sumA]
    omega
end Go.Proofs.Ytolbgemaildbkaa
