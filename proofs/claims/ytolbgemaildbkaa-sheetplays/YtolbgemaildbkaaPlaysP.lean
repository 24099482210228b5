/-
  Plain facts for SheetPlays: when a few entries may be posted, asked as the law asks it.
-/
import Derived.Test.YtolbgemaildbkaaZeroP
namespace Go.Proofs.Ytolbgemaildbkaa
open Go.RowKit

theorem addAll_drop (n : Nat) : ∀ (es : List Ent) (bal : List Int), (∀ e ∈ es, 0 ≤ e.acc ∧ e.acc < n) → (addAll bal es).drop n = bal.drop n
  | [], _, _ => rfl
  | e :: r, bal, h => by
    have he := h e (by simp)
    rw [addAll, addAll_drop n r _ (fun x hx => h x (by simp [hx])), List.drop_set_of_lt (by omega)]
theorem accOk_iff (n : Nat) (es : List Ent) : accOk n es = true ↔ ∀ e ∈ es, 0 ≤ e.acc ∧ e.acc < n := by
  unfold accOk
  rw [List.all_eq_true]
  simp
/-- Entries that may not be. -/
theorem post_bad (n : Nat) (bal : List Int) (es : List Ent) (h : (allAmt es && accOk n es) = false) : postB n bal es = false := by
  unfold postB netB
  cases h1 : allAmt es with
  | false => simp
  | true =>
    rw [h1] at h
    simp only [Bool.true_and] at h
    rw [h]
    simp
/-- Entries that may be, each by itself. -/
theorem post_good (n : Nat) (bal : List Int) (es : List Ent) (hl : es.length ≤ 6) (hb : ∀ x ∈ bal, amtOk x = true) (h : (allAmt es && accOk n es) = true) :
    postB n bal es = ((decide (0 < es.length) && decide (sumA es = 0)) && (addAll (bal.take n) es).all amtOk) := by
  simp only [Bool.and_eq_true] at h
  obtain ⟨h1, h2⟩ := h
  have hs := sumA_bd es h1
  have hn : netB es = true := by
    unfold netB
    rw [h1, decide_eq_true (by omega), (isInt_iff _).2 (by omega)]
    rfl
  have ha : (addAll bal es).all amtOk = (addAll (bal.take n) es).all amtOk := by
    have e : addAll bal es = addAll (bal.take n) es ++ bal.drop n := by
      rw [← addAll_drop n es bal ((accOk_iff n es).1 h2), ← addAll_take n es bal ((accOk_iff n es).1 h2), List.take_append_drop]
    rw [e, List.all_append]
    have : (bal.drop n).all amtOk = true := by
      rw [List.all_eq_true]
      exact fun x hx => hb x (List.mem_of_mem_drop hx)
    rw [this, Bool.and_true]
  unfold postB
  rw [hn, h2, ha]
  cases es with
  | nil => simp
  | cons e r => simp
theorem post_ok (n : Nat) (bal : List Int) (es : List Ent) (h : postB n bal es = true) : (∀ x ∈ addAll bal es, amtOk x = true) ∧ accOk n es = true ∧ allAmt es = true := by
  unfold postB netB at h
  simp only [Bool.and_eq_true, List.all_eq_true] at h
  exact ⟨h.2, h.1.2, h.1.1.1.2.1.2⟩
/-- A move of no less than -5. -/
theorem move_post (n : Nat) (bal : List Int) (f t m N : Int) (hN : max m (-5) = N) : moveB n bal f t N = (postB n bal (moveE f t N) && decide (0 ≤ m)) := by
  unfold moveB
  by_cases h0 : 0 ≤ m
  · have e : N = m := by omega
    subst e
    rw [decide_eq_true h0]
    simp only [Bool.true_and, Bool.and_true]
    cases hp : postB n bal (moveE f t N) with
    | false => simp
    | true =>
      have := (post_ok _ _ _ hp).2.2
      simp only [allAmt, moveE, List.all_cons, List.all_nil, Bool.and_true, Bool.and_eq_true, amtOk_iff] at this
      simp
      omega
  · rw [decide_eq_false h0, decide_eq_false (p := 0 ≤ N) (by omega)]
    simp
end Go.Proofs.Ytolbgemaildbkaa
