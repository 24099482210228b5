/-
  Plain facts on the calendar: the next day, four hundred years, months and years on. Nothing of the program.
-/
import Derived.Test.YtcnnjegoejphjaaCal
namespace Go.Proofs.Ytcnnjegoejphjaa
namespace Cal

/-- The day behind a day. -/
theorem next_day {y m d y' m' d' : Int} (h : rightB y m d = true) (h' : rightB y' m' d' = true) (e : num y' m' d' = num y m d + 1) :
    (d < last y m ∧ y' = y ∧ m' = m ∧ d' = d + 1) ∨ (d = last y m ∧ m < 12 ∧ y' = y ∧ m' = m + 1 ∧ d' = 1) ∨ (d = last y m ∧ m = 12 ∧ y' = y + 1 ∧ m' = 1 ∧ d' = 1) := by
  obtain ⟨a1, a2, a3, a4, a5, a6⟩ := right_in h
  have hn := num_right h
  by_cases c1 : d < last y m
  · have r : rightB y m (d + 1) = true := rightB_mk (by omega) (by omega)
    have q := num_right r
    have := num_inj h' r (by omega)
    omega
  · have cs := cum_succ y m a3 a4 a5 a6
    by_cases c2 : m < 12
    · have l := last_28 a3 a4 (show 1 ≤ m + 1 by omega) (by omega)
      have r : rightB y (m + 1) 1 = true := rightB_mk (by omega) (by omega)
      have q := num_right r
      have := num_inj h' r (by omega)
      omega
    · have e12 : m = 12 := by omega
      subst e12
      have ce := cum_end y
      rw [show (12 : Int) + 1 = 13 by rfl] at cs
      have ds := dby_succ y
      have b := num_bd h'
      have y9 : y + 1 ≤ 9999 := by
        rcases Int.lt_or_le y 9999 with g | g
        · omega
        · have e9 : y = 9999 := by omega
          subst e9
          have := dby_end
          rw [show (9999 : Int) + 1 = 10000 by rfl] at ds
          omega
      have l := last_28 (y := y + 1) (m := 1) (by omega) y9 (by omega) (by omega)
      have r : rightB (y + 1) 1 1 = true := rightB_mk (by omega) (by omega)
      have q := num_right r
      have c1 := cum_one (y + 1)
      have := num_inj h' r (by omega)
      omega
/-- Four hundred years on. -/
theorem plus_400 {y m d : Int} (h : rightB y m d = true) (hn : num y m d + 146097 ≤ 3652058) : rightB (y + 400) m d = true ∧ num (y + 400) m d = num y m d + 146097 := by
  obtain ⟨a1, a2, a3, a4, a5, a6⟩ := right_in h
  have q := num_right h
  have y9 : y + 400 ≤ 9999 := by
    rcases Int.lt_or_le y 9600 with g | g
    · omega
    · have := dby_mono 9600 y g
      have e : dby 9600 = 3505962 := by decide
      have := (cum_bd y m a5 (by omega)).1
      omega
  have hl : last (y + 400) m = last y m := by
    unfold last
    rw [if_pos (show 1 ≤ y + 400 ∧ y + 400 ≤ 9999 ∧ 1 ≤ m ∧ m ≤ 12 from ⟨by omega, y9, a5, a6⟩), if_pos (show 1 ≤ y ∧ y ≤ 9999 ∧ 1 ≤ m ∧ m ≤ 12 from ⟨a3, a4, a5, a6⟩), lp_400]
  have r : rightB (y + 400) m d = true := rightB_mk a1 (by omega)
  have hc : cum (y + 400) m = cum y m := by unfold cum; rw [lp_400]
  exact ⟨r, by rw [num_right r, num_right h, dby_400, hc]; omega⟩

theorem lp_next {y : Int} (h : lp y = 1) : lp (y + 1) = 0 := by
  unfold lp at *
  split at h
  · rw [if_neg (by omega)]
  · omega
theorem last_feb (y : Int) (h1 : 1 ≤ y) (h2 : y ≤ 9999) : last y 2 = 28 + lp y := by
  unfold last; rw [if_pos ⟨h1, h2, by omega, by omega⟩]; rfl
theorem num_first (y : Int) (h1 : 1 ≤ y) (h2 : y ≤ 9999) : num y 1 1 = dby y := by
  have l := last_28 h1 h2 (show (1 : Int) ≤ 1 by omega) (by omega)
  rw [num_right (rightB_mk (by omega) (by omega)), cum_one]; omega
/-- A year on, of a day up to the 28th. -/
theorem year_on (y m d : Int) (h1 : 1 ≤ y) (h2 : y ≤ 9998) (h3 : 1 ≤ m) (h4 : m ≤ 12) (h5 : 1 ≤ d) (h6 : d ≤ 28) :
    shY y m d 12 = y + 1 ∧ shM y m d 12 = m ∧ shD y m d 12 = d ∧ 0 ≤ num y m d ∧ num y m d ≤ 3652058 ∧ num (y + 1) m d = num y m d + 365 + (if m ≤ 2 then lp y else lp (y + 1)) := by
  have l := last_28 h1 (show y ≤ 9999 by omega) h3 h4
  have l' := last_28 (y := y + 1) (by omega) (by omega) h3 h4
  have r : rightB y m d = true := rightB_mk h5 (by omega)
  have r' : rightB (y + 1) m d = true := rightB_mk h5 (by omega)
  have b := num_bd r
  have s : shB y m d 12 = true := by simp [shB, r]; omega
  have q1 : (12 * y + m - 1 + 12) / 12 = y + 1 := by omega
  have q2 : (12 * y + m - 1 + 12) % 12 + 1 = m := by omega
  refine ⟨by simp only [shY, s]; simpa using q1, by simp only [shM, s]; simpa using q2, ?_, b.1, b.2, ?_⟩
  · simp only [shD, s, q1, q2]; simp; omega
  · rw [num_right r, num_right r', dby_succ]
    unfold cum
    split <;> omega
/-- No months on. -/
theorem shift_zero {y m d : Int} (h : rightB y m d = true) : shY y m d 0 = y ∧ shM y m d 0 = m ∧ shD y m d 0 = d := by
  obtain ⟨a1, a2, a3, a4, a5, a6⟩ := right_in h
  have s : shB y m d 0 = true := by simp [shB, h]; omega
  have q1 : (12 * y + m - 1 + 0) / 12 = y := by omega
  have q2 : (12 * y + m - 1 + 0) % 12 + 1 = m := by omega
  refine ⟨by simp only [shY, s, q1]; rfl, by simp only [shM, s, q2]; rfl, ?_⟩
  simp only [shD, s, q1, q2]; simp; omega
/-- A month that the calendar hasn't. -/
theorem shift_out (y m d k : Int) (hk : 12 * y + m - 1 + k < 12 ∨ 120000 ≤ 12 * y + m - 1 + k) : shY y m d k = 0 ∧ shM y m d k = 0 ∧ shD y m d k = 0 := by
  have s : shB y m d k = false := by simp [shB]; omega
  simp [shY, shM, shD, s]
/-- A month that it has: there, and back. -/
theorem shift_in {y m d k : Int} (h : rightB y m d = true) (h0 : 12 ≤ 12 * y + m - 1 + k) (h1 : 12 * y + m - 1 + k < 120000) :
    ∃ Y M L D, last Y M = L ∧ (D = if L < d then L else d) ∧ shY y m d k = Y ∧ shM y m d k = M ∧ shD y m d k = D ∧ rightB Y M D = true ∧ D ≤ d ∧ 12 * Y + M - 1 = 12 * y + m - 1 + k ∧
      shY Y M D (-k) = y ∧ shM Y M D (-k) = m ∧ shD Y M D (-k) = D ∧ (0 < k → num y m d ≤ num Y M D) := by
  obtain ⟨a1, a2, a3, a4, a5, a6⟩ := right_in h
  generalize hA : 12 * y + m - 1 + k = A at *
  obtain ⟨b1, b2, b3, b4⟩ := shift_parts A h0 h1
  have l := last_28 b1 b2 b3 b4
  have s : shB y m d k = true := by simp [shB, h]; omega
  have r : rightB (A / 12) (A % 12 + 1) (min d (last (A / 12) (A % 12 + 1))) = true := rightB_mk (by omega) (by omega)
  have s' : shB (A / 12) (A % 12 + 1) (min d (last (A / 12) (A % 12 + 1))) (-k) = true := by simp [shB, r]; omega
  have q1 : (12 * (A / 12) + (A % 12 + 1) - 1 + -k) / 12 = y := by omega
  have q2 : (12 * (A / 12) + (A % 12 + 1) - 1 + -k) % 12 + 1 = m := by omega
  refine ⟨A / 12, A % 12 + 1, last (A / 12) (A % 12 + 1), min d (last (A / 12) (A % 12 + 1)), rfl, by split <;> omega, by simp only [shY, s, hA]; rfl, by simp only [shM, s, hA]; rfl, by simp only [shD, s, hA]; rfl, r, by omega, by omega, by simp only [shY, s', q1]; rfl, by simp only [shM, s', q2]; rfl, ?_, ?_⟩
  · simp only [shD, s', q1, q2]; simp; omega
  · intro hk
    have sp := right_span h
    have sp' := right_span r
    by_cases e : A / 12 = y
    · have c := cum_mono y (m + 1) (A % 12 + 1) (by omega)
      rw [e] at sp' ⊢
      omega
    · have c := dby_mono (y + 1) (A / 12) (by omega)
      omega
end Cal
end Go.Proofs.Ytcnnjegoejphjaa
