/-
  Plain facts on the days that count and on what a balance bears. Nothing of the program's run.
-/
import Derived.Test.YtcnnjegoejphjaaCal2
import Derived.Test.YtcnnjegoejphjaaMdFacts
namespace Go.Proofs.Ytcnnjegoejphjaa
namespace Acc

/-- The days of a year. -/
def per (k : Int) : Int := if k = 2 then 365 else 360
/-- Is there such a time? -/
def okB (y m d p q r : Int) : Bool := Cal.rightB y m d && Cal.rightB p q r && decide (Cal.num y m d ≤ Cal.num p q r)
/-- Days by months of 30. -/
def com (y m d p q r : Int) : Int := 360 * (p - y) + 30 * (q - m) + (if 30 ≤ d then min r 30 else r) - min d 30
/-- The days that count. -/
def days (k y m d p q r : Int) : Int :=
  if okB y m d p q r then (if k = 0 then com y m d p q r else if k = 1 ∨ k = 2 then Cal.num p q r - Cal.num y m d else 0) else 0
/-- Is there an amount? -/
def intB (b t k y m d p q r : Int) : Bool := decide (0 ≤ t ∧ t ≤ 5000) && mdB b (t * days k y m d p q r) (10000 * per k) 2
/-- The amount. -/
def intV (b t k y m d p q r : Int) : Int := if 0 ≤ t ∧ t ≤ 5000 then mdV b (t * days k y m d p q r) (10000 * per k) 2 else 0

theorem per_two : per 2 = 365 := rfl
theorem per_else {k : Int} (h : k ≠ 2) : per k = 360 := by unfold per; rw [if_neg h]
theorem per_bd (k : Int) : 360 ≤ per k ∧ per k ≤ 365 := by unfold per; split <;> omega
theorem okB_mk {y m d p q r : Int} (h : Cal.rightB y m d = true) (h' : Cal.rightB p q r = true) (hn : Cal.num y m d ≤ Cal.num p q r) : okB y m d p q r = true := by
  simp [okB, h, h', hn]
theorem okB_out {y m d p q r : Int} (h : okB y m d p q r = true) : Cal.rightB y m d = true ∧ Cal.rightB p q r = true ∧ Cal.num y m d ≤ Cal.num p q r := by
  simp [okB] at h; exact ⟨h.1.1, h.1.2, h.2⟩
theorem days_none {k y m d p q r : Int} (h : okB y m d p q r = false) : days k y m d p q r = 0 := by simp [days, h]
theorem days_com {y m d p q r : Int} (h : okB y m d p q r = true) : days 0 y m d p q r = com y m d p q r := by simp [days, h]
theorem days_act {k y m d p q r : Int} (h : okB y m d p q r = true) (hk : k = 1 ∨ k = 2) : days k y m d p q r = Cal.num p q r - Cal.num y m d := by
  have h0 : k ≠ 0 := by omega
  simp [days, h, hk, h0]
theorem days_other {k : Int} (y m d p q r : Int) (h0 : k ≠ 0) (h1 : k ≠ 1) (h2 : k ≠ 2) : days k y m d p q r = 0 := by
  simp [days, h0, h1, h2]
theorem com_bd (y m d p q r : Int) (y0 : 1 ≤ y) (y1 : y ≤ 9999) (m0 : 1 ≤ m) (m1 : m ≤ 12) (d0 : 1 ≤ d) (d1 : d ≤ 31) (p0 : 1 ≤ p) (p1 : p ≤ 9999) (q0 : 1 ≤ q) (q1 : q ≤ 12) (r0 : 1 ≤ r) (r1 : r ≤ 31) :
    -4000000 ≤ com y m d p q r ∧ com y m d p q r ≤ 4000000 := by
  unfold com; split <;> omega
theorem days_bd (k y m d p q r : Int) : -4000000 ≤ days k y m d p q r ∧ days k y m d p q r ≤ 4000000 := by
  unfold days
  split
  · rename_i h
    obtain ⟨h1, h2, h3⟩ := okB_out h
    obtain ⟨a1, a2, a3, a4, a5, a6⟩ := Cal.right_in h1
    obtain ⟨b1, b2, b3, b4, b5, b6⟩ := Cal.right_in h2
    have la := (Cal.last_lo y m).2
    have lb := (Cal.last_lo p q).2
    have na := Cal.num_bd h1
    have nb := Cal.num_bd h2
    have := com_bd y m d p q r a3 a4 a5 a6 a1 (by omega) b3 b4 b5 b6 b1 (by omega)
    split
    · exact this
    · split <;> omega
  · omega
theorem rate_bd (t D : Int) (t0 : 0 ≤ t) (t1 : t ≤ 5000) (d0 : -4000000 ≤ D) (d1 : D ≤ 4000000) : -20000000000 ≤ t * D ∧ t * D ≤ 20000000000 := by
  constructor
  · have : t * -4000000 ≤ t * D := Int.mul_le_mul_of_nonneg_left d0 t0
    omega
  · have : t * D ≤ t * 4000000 := Int.mul_le_mul_of_nonneg_left d1 t0
    omega
theorem int_in {b t k y m d p q r : Int} (t0 : 0 ≤ t) (t1 : t ≤ 5000) : intB b t k y m d p q r = mdB b (t * days k y m d p q r) (10000 * per k) 2 ∧ intV b t k y m d p q r = mdV b (t * days k y m d p q r) (10000 * per k) 2 := by
  simp [intB, intV, t0, t1]
theorem int_out {b t k y m d p q r : Int} (h : t < 0 ∨ 5000 < t) : intB b t k y m d p q r = false ∧ intV b t k y m d p q r = 0 := by
  have : ¬ (0 ≤ t ∧ t ≤ 5000) := by omega
  simp only [intB, intV, this, decide_false, Bool.false_and, if_false, and_self]
end Acc
end Go.Proofs.Ytcnnjegoejphjaa
