/-
  Plain facts on the calendar: leap years, months, days ahead of a year, numbers of days. Nothing of the program.
-/
import Derived.Test.YtcnnjegoejphjaaRows
namespace Go.Proofs.Ytcnnjegoejphjaa
namespace Cal

/-- One, if the year has a 29 February, else nought. -/
def lp (y : Int) : Int := if (y % 4 = 0 ∧ y % 100 ≠ 0) ∨ y % 400 = 0 then 1 else 0
def leapB (y : Int) : Bool := decide ((y % 4 = 0 ∧ y % 100 ≠ 0) ∨ y % 400 = 0)
/-- The days of a month of a year; 0 of none. -/
def last (y m : Int) : Int :=
  if 1 ≤ y ∧ y ≤ 9999 ∧ 1 ≤ m ∧ m ≤ 12 then
    if m = 2 then 28 + lp y else if m = 4 ∨ m = 6 ∨ m = 9 ∨ m = 11 then 30 else 31
  else 0
def rightB (y m d : Int) : Bool := decide (1 ≤ d ∧ d ≤ last y m)
/-- The days ahead of a year. -/
def dby (y : Int) : Int := 365 * (y - 1) + (y - 1) / 4 - (y - 1) / 100 + (y - 1) / 400
/-- The days of a year ahead of its month m. -/
def cum (y m : Int) : Int := (367 * m - 362) / 12 - (if m ≤ 2 then 0 else 2 - lp y)
def num (y m d : Int) : Int := if rightB y m d then dby y + cum y m + d - 1 else -1

theorem lp_01 (y : Int) : lp y = 0 ∨ lp y = 1 := by unfold lp; split <;> simp
theorem lp_lo (y : Int) : 0 ≤ lp y ∧ lp y ≤ 1 := by rcases lp_01 y with h | h <;> omega
theorem leapB_lp (y : Int) : leapB y = decide (lp y = 1) := by
  unfold leapB lp
  split <;> rename_i h <;> simp [h]
theorem dby_succ (y : Int) : dby (y + 1) = dby y + 365 + lp y := by
  unfold dby lp
  split <;> omega
theorem dby_mono (a b : Int) (h : a ≤ b) : dby a ≤ dby b := by unfold dby; omega
theorem dby_bd (a : Int) (h0 : 1 ≤ a) (h : a ≤ 10000) : 0 ≤ dby a ∧ dby a ≤ 3652059 := by unfold dby; omega
theorem dby_one : dby 1 = 0 := by decide
theorem dby_end : dby 10000 = 3652059 := by decide
theorem dby_400 (y : Int) : dby (y + 400) = dby y + 146097 := by unfold dby; omega
theorem lp_400 (y : Int) : lp (y + 400) = lp y := by
  unfold lp
  have a : (y + 400) % 4 = y % 4 := by omega
  have b : (y + 400) % 100 = y % 100 := by omega
  have c : (y + 400) % 400 = y % 400 := by omega
  rw [a, b, c]
theorem last_lo (y m : Int) : 0 ≤ last y m ∧ last y m ≤ 31 := by
  have := lp_lo y
  unfold last
  split
  · split
    · omega
    · split <;> omega
  · omega
theorem last_in {y m : Int} (h : 1 ≤ last y m) : 1 ≤ y ∧ y ≤ 9999 ∧ 1 ≤ m ∧ m ≤ 12 := by
  unfold last at h
  split at h
  · assumption
  · omega
theorem last_28 {y m : Int} (h1 : 1 ≤ y) (h2 : y ≤ 9999) (h3 : 1 ≤ m) (h4 : m ≤ 12) : 28 ≤ last y m := by
  have := lp_lo y
  unfold last
  rw [if_pos ⟨h1, h2, h3, h4⟩]
  split
  · omega
  · split <;> omega
theorem last_out {y m : Int} (h : ¬ (1 ≤ y ∧ y ≤ 9999 ∧ 1 ≤ m ∧ m ≤ 12)) : last y m = 0 := by
  unfold last; rw [if_neg h]
theorem months {m : Int} (h1 : 1 ≤ m) (h2 : m ≤ 12) : m = 1 ∨ m = 2 ∨ m = 3 ∨ m = 4 ∨ m = 5 ∨ m = 6 ∨ m = 7 ∨ m = 8 ∨ m = 9 ∨ m = 10 ∨ m = 11 ∨ m = 12 := by omega
theorem cum_succ (y m : Int) (h1 : 1 ≤ y) (h2 : y ≤ 9999) (h3 : 1 ≤ m) (h4 : m ≤ 12) : cum y (m + 1) = cum y m + last y m := by
  rcases months h3 h4 with rfl | rfl | rfl | rfl | rfl | rfl | rfl | rfl | rfl | rfl | rfl | rfl <;> simp [cum, last, h1, h2] <;> omega
theorem cum_one (y : Int) : cum y 1 = 0 := rfl
theorem cum_end (y : Int) : cum y 13 = 365 + lp y := by unfold cum; simp; omega
theorem cum_bd (y m : Int) (h3 : 1 ≤ m) (h4 : m ≤ 13) : 0 ≤ cum y m ∧ cum y m ≤ 366 := by
  have := lp_lo y
  unfold cum
  split <;> omega
theorem cum_mono (y a b : Int) (h : a ≤ b) : cum y a ≤ cum y b := by
  have := lp_lo y
  unfold cum
  split <;> split <;> omega

theorem rightB_mk {y m d : Int} (h0 : 1 ≤ d) (h1 : d ≤ last y m) : rightB y m d = true := by unfold rightB; exact decide_eq_true ⟨h0, h1⟩
theorem rightB_out {y m d : Int} (h : rightB y m d = true) : 1 ≤ d ∧ d ≤ last y m := by unfold rightB at h; exact of_decide_eq_true h
theorem right_in {y m d : Int} (h : rightB y m d = true) : 1 ≤ d ∧ d ≤ last y m ∧ 1 ≤ y ∧ y ≤ 9999 ∧ 1 ≤ m ∧ m ≤ 12 := by
  have a := rightB_out h
  exact ⟨a.1, a.2, last_in (by omega)⟩
theorem num_right {y m d : Int} (h : rightB y m d = true) : num y m d = dby y + cum y m + d - 1 := by unfold num; rw [if_pos h]
theorem num_wrong {y m d : Int} (h : rightB y m d = false) : num y m d = -1 := by unfold num; rw [h]; rfl
/-- A right date lies within its month, its month within its year. -/
theorem right_span {y m d : Int} (h : rightB y m d = true) : dby y + cum y m ≤ num y m d ∧ num y m d < dby y + cum y (m + 1) ∧ num y m d < dby (y + 1) ∧ dby y ≤ num y m d := by
  obtain ⟨a, b, c, d', e, f⟩ := right_in h
  rw [num_right h]
  have h1 := cum_succ y m c d' e f
  have h2 := cum_mono y (m + 1) 13 (by omega)
  have h3 := dby_succ y
  have h4 := (cum_bd y m e (by omega)).1
  rw [cum_end] at h2
  omega
theorem num_bd {y m d : Int} (h : rightB y m d = true) : 0 ≤ num y m d ∧ num y m d ≤ 3652058 := by
  obtain ⟨a, b, c, d', e, f⟩ := right_in h
  have s := right_span h
  have g := (dby_bd y c (by omega)).1
  have k := (dby_bd (y + 1) (by omega) (by omega)).2
  omega
theorem num_lo (y m d : Int) : -1 ≤ num y m d ∧ num y m d ≤ 3652058 := by
  by_cases h : rightB y m d = true
  · have := num_bd h; omega
  · rw [num_wrong (by simpa using h)]; omega
/-- Two right dates with one number are the same. -/
theorem num_inj {y m d y' m' d' : Int} (h : rightB y m d = true) (h' : rightB y' m' d' = true) (e : num y m d = num y' m' d') : y = y' ∧ m = m' ∧ d = d' := by
  have s := right_span h
  have s' := right_span h'
  have hy : y = y' := by
    rcases Int.lt_trichotomy y y' with g | g | g
    · have := dby_mono (y + 1) y' (by omega); omega
    · exact g
    · have := dby_mono (y' + 1) y (by omega); omega
  subst hy
  have hm : m = m' := by
    rcases Int.lt_trichotomy m m' with g | g | g
    · have := cum_mono y (m + 1) m' (by omega); omega
    · exact g
    · have := cum_mono y (m' + 1) m (by omega); omega
  subst hm
  rw [num_right h, num_right h'] at e
  exact ⟨rfl, rfl, by omega⟩

/-- The months of the calendar, counted from January of the year nought. -/
theorem shift_parts (k : Int) (h0 : 12 ≤ k) (h1 : k < 120000) : 1 ≤ k / 12 ∧ k / 12 ≤ 9999 ∧ 1 ≤ k % 12 + 1 ∧ k % 12 + 1 ≤ 12 := by omega
/-- The date so many months later: its year, month and day. -/
def shB (y m d k : Int) : Bool := rightB y m d && decide (12 ≤ 12 * y + m - 1 + k) && decide (12 * y + m - 1 + k < 120000)
def shY (y m d k : Int) : Int := if shB y m d k then (12 * y + m - 1 + k) / 12 else 0
def shM (y m d k : Int) : Int := if shB y m d k then (12 * y + m - 1 + k) % 12 + 1 else 0
def shD (y m d k : Int) : Int := if shB y m d k then min d (last ((12 * y + m - 1 + k) / 12) ((12 * y + m - 1 + k) % 12 + 1)) else 0
end Cal
end Go.Proofs.Ytcnnjegoejphjaa
