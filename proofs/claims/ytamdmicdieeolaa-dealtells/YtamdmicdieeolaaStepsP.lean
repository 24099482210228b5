/-
  Lists of steps, the plain part: turned round they may be; with one twice, one that is none, or too many they may not.
-/
import Derived.Test.YtamdmicdieeolaaDealKP
namespace Go.Proofs.Ytamdmicdieeolaa
open Go.RowKit

theorem StT.eq_comm (x y : StT) : x.eq y = y.eq x := by
  unfold StT.eq
  exact decide_eq_decide.2 ⟨fun h => ⟨h.1.symm, h.2.symm⟩, fun h => ⟨h.1.symm, h.2.symm⟩⟩
theorem StT.eq_self (x : StT) : x.eq x = true := by simp [StT.eq]
/-- None twice, none that is in p. -/
theorem stepsFrom_iff : ∀ (xs p : List StT), stepsFrom p xs = true ↔ (∀ x ∈ xs, x.ok = true) ∧ xs.Pairwise (fun x y => x.eq y = false) ∧ ∀ x ∈ xs, ∀ y ∈ p, x.eq y = false
  | [], p => by simp [stepsFrom]
  | x :: r, p => by
    rw [stepsFrom, Bool.and_eq_true, Bool.and_eq_true, stepsFrom_iff r (p ++ [x])]
    have e : (!(p.any fun y => x.eq y)) = true ↔ ∀ y ∈ p, x.eq y = false := by simp
    rw [e]
    constructor
    · rintro ⟨⟨h1, h2⟩, h3, h4, h5⟩
      refine ⟨fun z hz => ?_, List.pairwise_cons.2 ⟨fun y hy => ?_, h4⟩, fun z hz y hy => ?_⟩
      · rcases List.mem_cons.1 hz with rfl | hz
        · exact h1
        · exact h3 z hz
      · rw [StT.eq_comm]
        exact h5 y hy x (by simp)
      · rcases List.mem_cons.1 hz with rfl | hz
        · exact h2 y hy
        · exact h5 z hz y (by simp [hy])
    · rintro ⟨h1, h2, h3⟩
      rw [List.pairwise_cons] at h2
      refine ⟨⟨h1 x (by simp), h3 x (by simp)⟩, fun z hz => h1 z (by simp [hz]), h2.2, fun z hz y hy => ?_⟩
      rcases List.mem_append.1 hy with hy | hy
      · exact h3 z (by simp [hz]) y hy
      · simp at hy
        subst hy
        rw [StT.eq_comm]
        exact h2.1 z hz
theorem stepsP_iff (xs : List StT) : stepsP xs = true ↔ (1 ≤ xs.length ∧ xs.length ≤ 16) ∧ (∀ x ∈ xs, x.ok = true) ∧ xs.Pairwise (fun x y => x.eq y = false) := by
  unfold stepsP
  rw [Bool.and_eq_true, stepsFrom_iff, inL_one]
  simp
  omega
/-- Turned round. -/
theorem stepsP_turn {xs : List StT} (h : stepsP xs = true) (c : Nat) : stepsP (xs.drop c ++ xs.take c) = true := by
  rw [stepsP_iff] at h ⊢
  obtain ⟨h0, h1, h2⟩ := h
  have e : xs.take c ++ xs.drop c = xs := List.take_append_drop c xs
  rw [← e, List.pairwise_append] at h2
  obtain ⟨g1, g2, g3⟩ := h2
  refine ⟨?_, fun x hx => ?_, List.pairwise_append.2 ⟨g2, g1, fun x hx y hy => ?_⟩⟩
  · rw [List.length_append, List.length_drop, List.length_take]
    omega
  · rcases List.mem_append.1 hx with hx | hx
    · exact h1 x (List.mem_of_mem_drop hx)
    · exact h1 x (List.mem_of_mem_take hx)
  · rw [StT.eq_comm]
    exact g3 y hy x hx
theorem stepsP_twice {xs : List StT} {x : StT} (hx : x ∈ xs) : stepsP (xs ++ [x]) = false := by
  rw [← Bool.not_eq_true, stepsP_iff]
  rintro ⟨_, _, h⟩
  have := (List.pairwise_append.1 h).2.2 x hx x (by simp)
  rw [StT.eq_self] at this
  cases this
theorem stepsP_bad {xs : List StT} {x : StT} (hx : x ∈ xs) (ho : x.ok = false) : stepsP xs = false := by
  rw [← Bool.not_eq_true, stepsP_iff]
  rintro ⟨_, h, _⟩
  have := h x hx
  rw [ho] at this
  cases this
theorem stepsP_long {xs : List StT} (h : 16 < xs.length) : stepsP xs = false := by
  rw [← Bool.not_eq_true, stepsP_iff]
  rintro ⟨h0, _⟩
  omega
theorem bad_kind {k r : Int} (h : k ≤ 0 ∨ 7 < k) : StT.ok ⟨k, r⟩ = false := by
  unfold StT.ok
  simp only
  rw [if_neg (by omega)]
  simp [inL]
  omega
theorem bad_rank {r : Int} (h : 7 < r) : StT.ok ⟨3, r⟩ = false := by
  unfold StT.ok
  simp [rankP, inL]
  omega
theorem bad_fee {r : Int} (h : r ≠ 0) : StT.ok ⟨1, r⟩ = false := by
  unfold StT.ok
  simp [inL, h]
theorem DealT.ok_modes {d : DealT} (h : d.ok = true) : stepsP d.s0 = true ∧ stepsP d.s1 = true ∧ stepsP d.s2 = true := by
  unfold DealT.ok DealT.modes at h
  simp only [Bool.and_eq_true] at h
  exact ⟨h.2.1.1, h.2.1.2, h.2.2⟩
end Go.Proofs.Ytamdmicdieeolaa
