/-
  Plain facts on what MulDiv tells.
-/
import Derived.Test.YtmchjfiaphkpdaaMulDiv
namespace Go.Proofs.Ytmchjfiaphkpdaa

theorem upB_zero (q per how : Int) (hp : 1 ≤ per) : upB q 0 per how = false := by
  simp [upB]
  intro _
  exact ⟨by omega, fun h => by omega⟩

theorem upB_down (q r per : Int) : upB q r per 0 = false := by simp [upB]
theorem upB_up (q r per : Int) : upB q r per 1 = decide (0 < r) := by simp [upB]
theorem upB_half (q r per : Int) : upB q r per 2 = (decide (per < 2 * r) || (2 * r == per && q % 2 == 1)) := by simp [upB]

/-- A product that is an amount: there is an answer. -/
theorem md_amount (a b d how : Int) (a0 : 0 ≤ a) (a1 : a ≤ 1152921504606846976) (b0 : 0 ≤ b) (b1 : b ≤ 1152921504606846976) (d0 : 1 ≤ d) (d1 : d ≤ 1152921504606846976) (h0 : 0 ≤ how) (h1 : how ≤ 2) (hp : a * b ≤ 1152921504606846976) :
    mdB a b d how = true ∧ mdV a b d how = mdRaw a b d how := by
  have hi : mdIn a b d how = true := by simp only [mdIn, decide_eq_true_eq]; omega
  have p0 : 0 ≤ a * b := Int.mul_nonneg a0 b0
  have hr : mdRaw a b d how ≤ 1152921504606846976 := by
    unfold mdRaw
    rcases Int.lt_or_le 1 d with g | g
    · have : a * b / d ≤ a * b / 2 := by
        refine (Int.le_ediv_iff_mul_le (by omega)).2 ?_
        have h := Int.ediv_mul_le (a * b) (b := d) (by omega)
        have hn : 0 ≤ a * b / d := Int.ediv_nonneg p0 (by omega)
        have : a * b / d * 2 ≤ a * b / d * d := Int.mul_le_mul_of_nonneg_left (by omega) hn
        omega
      split <;> omega
    · have : d = 1 := by omega
      subst this
      rw [Int.emod_one, upB_zero _ _ _ (by omega), Int.ediv_one]
      simpa using hp
  have hb : mdB a b d how = true := by simp [mdB, hi, hr]
  exact ⟨hb, by simp [mdV, hb]⟩

/-- Down, half and up of one product. -/
theorem md_three (a b d : Int) (a0 : 0 ≤ a) (a1 : a ≤ 1152921504606846976) (b0 : 0 ≤ b) (b1 : b ≤ 1152921504606846976) (d0 : 1 ≤ d) (d1 : d ≤ 1152921504606846976) (hp : a * b ≤ 1152921504606846976) :
    ∃ x y z P R : Int, a * b = P ∧ P % d = R ∧ x * d = P - R ∧ 0 ≤ P ∧ P ≤ 1152921504606846976 ∧ 0 ≤ R ∧ R < d ∧ 0 ≤ x ∧ x ≤ P ∧
      mdB a b d 0 = true ∧ mdB a b d 2 = true ∧ mdB a b d 1 = true ∧ mdV a b d 0 = x ∧ mdV a b d 2 = y ∧ mdV a b d 1 = z ∧ mdB b a d 2 = true ∧ mdV b a d 2 = y ∧
      z = x + (if 0 < R then 1 else 0) ∧ y = x + (if d < 2 * R ∨ (2 * R = d ∧ x % 2 = 1) then 1 else 0) := by
  obtain ⟨e0, v0⟩ := md_amount a b d 0 a0 a1 b0 b1 d0 d1 (by omega) (by omega) hp
  obtain ⟨e1, v1⟩ := md_amount a b d 1 a0 a1 b0 b1 d0 d1 (by omega) (by omega) hp
  obtain ⟨e2, v2⟩ := md_amount a b d 2 a0 a1 b0 b1 d0 d1 (by omega) (by omega) hp
  obtain ⟨e3, v3⟩ := md_amount b a d 2 b0 b1 a0 a1 d0 d1 (by omega) (by omega) (by rw [Int.mul_comm]; exact hp)
  have p0 : 0 ≤ a * b := Int.mul_nonneg a0 b0
  have r0 := Int.emod_nonneg (a * b) (b := d) (by omega)
  have r1 := Int.emod_lt_of_pos (a * b) (b := d) (by omega)
  have q0 : 0 ≤ a * b / d := Int.ediv_nonneg p0 (by omega)
  have q1 : a * b / d ≤ a * b := Int.ediv_le_self _ p0
  have s := Int.mul_ediv_add_emod (a * b) d
  have x0 : mdV a b d 0 = a * b / d := by rw [v0]; unfold mdRaw; rw [upB_down]; simp
  have x1 : mdV a b d 1 = a * b / d + (if 0 < a * b % d then 1 else 0) := by rw [v1]; unfold mdRaw; rw [upB_up]; simp
  have x2 : mdV a b d 2 = a * b / d + (if d < 2 * (a * b % d) ∨ (2 * (a * b % d) = d ∧ a * b / d % 2 = 1) then 1 else 0) := by rw [v2]; unfold mdRaw; rw [upB_half]; simp
  have x3 : mdV b a d 2 = mdV a b d 2 := by rw [v2, v3]; unfold mdRaw; rw [Int.mul_comm b a]
  refine ⟨a * b / d, _, _, a * b, a * b % d, rfl, rfl, ?_, p0, hp, r0, r1, q0, q1, e0, e2, e1, x0, rfl, rfl, e3, x3, x1, x2⟩
  rw [Int.mul_comm]
  omega

/-- Down, of a product that is an amount. -/
theorem md_down (a b d : Int) (a0 : 0 ≤ a) (a1 : a ≤ 1152921504606846976) (b0 : 0 ≤ b) (b1 : b ≤ 1152921504606846976) (d0 : 1 ≤ d) (d1 : d ≤ 1152921504606846976) (hp : a * b ≤ 1152921504606846976) :
    mdB a b d 0 = true ∧ mdV a b d 0 = a * b / d := by
  obtain ⟨e0, v0⟩ := md_amount a b d 0 a0 a1 b0 b1 d0 d1 (by omega) (by omega) hp
  exact ⟨e0, by rw [v0]; unfold mdRaw; rw [upB_down]; simp⟩

/-- A quotient of a sum is the quotients' sum, or one more. -/
theorem div_add (P Q d : Int) (hd : 1 ≤ d) : (P + Q) / d = P / d + Q / d ∨ (P + Q) / d = P / d + Q / d + 1 := by
  have a1 := Int.mul_ediv_add_emod P d
  have a2 := Int.mul_ediv_add_emod Q d
  have p1 := Int.emod_nonneg P (b := d) (by omega)
  have p2 := Int.emod_lt_of_pos P (b := d) (by omega)
  have q1 := Int.emod_nonneg Q (b := d) (by omega)
  have q2 := Int.emod_lt_of_pos Q (b := d) (by omega)
  have e : P + Q = (P % d + Q % d) + d * (P / d + Q / d) := by rw [Int.mul_add]; omega
  rw [e, Int.add_mul_ediv_left _ _ (by omega)]
  rcases Int.lt_or_le (P % d + Q % d) d with g | g
  · left
    rw [Int.ediv_eq_zero_of_lt (by omega) g]; omega
  · right
    have e2 : P % d + Q % d = (P % d + Q % d - d) + d * 1 := by omega
    rw [e2, Int.add_mul_ediv_left _ _ (by omega), Int.ediv_eq_zero_of_lt (by omega) (by omega)]
    omega

/-- An exact product. -/
theorem md_exact (x n m : Int) (x0 : 0 ≤ x) (n0 : 0 ≤ n) (n1 : n ≤ 1152921504606846976) (m0 : 1 ≤ m) (m1 : m ≤ 1152921504606846976) (hxm : x * m ≤ 1152921504606846976) (hp : x * n ≤ 1152921504606846976) :
    mdB (x * m) n m 2 = true ∧ mdV (x * m) n m 2 = x * n := by
  have hi : mdIn (x * m) n m 2 = true := by
    have := Int.mul_nonneg x0 (show 0 ≤ m by omega)
    simp only [mdIn, decide_eq_true_eq]; omega
  have e : x * m * n = m * (x * n) := by rw [Int.mul_right_comm, Int.mul_comm]
  have hr : mdRaw (x * m) n m 2 = x * n := by
    unfold mdRaw
    rw [e, Int.mul_emod_right, upB_zero _ _ _ m0, Int.mul_ediv_cancel_left _ (by omega)]
    simp
  have hb : mdB (x * m) n m 2 = true := by simp [mdB, hi, hr, hp]
  exact ⟨hb, by simp [mdV, hb, hr]⟩

theorem md_nil (x n : Int) (how : Int) : mdB x n 0 how = false := by simp [mdB, mdIn]
theorem md_how (x n d : Int) : mdB x n d 3 = false := by simp [mdB, mdIn]
theorem md_top (d : Int) (d0 : 1 ≤ d) (d1 : d ≤ 1024) : mdB 1152921504606846976 1152921504606846976 d 0 = false := by
  have : ¬ mdRaw 1152921504606846976 1152921504606846976 d 0 ≤ 1152921504606846976 := by
    unfold mdRaw
    rw [upB_down]
    have : 1152921504606846977 ≤ (1152921504606846976 : Int) * 1152921504606846976 / d := by
      refine (Int.le_ediv_iff_mul_le (by omega)).2 ?_
      omega
    generalize (1152921504606846976 : Int) * 1152921504606846976 / d = Q at *
    simp
    omega
  simp [mdB, this]

theorem small_mul (a b : Int) (a1 : a ≤ 1073741824) (b0 : 0 ≤ b) (b1 : b ≤ 1073741824) : a * b ≤ 1152921504606846976 :=
  Int.mul_le_mul (d := 1073741824) a1 b1 b0 (by omega)

theorem wraps_i64 (n : Int) (h₀ : 0 ≤ n) (h₁ : n < 2 ^ 63) : IntKind.i64.wrap n = n := by rw [IntKind.wrap_i64]; omega
/-- The lowest bit of a number from 0 on. -/
theorem low_bit (n : Int) (h0 : 0 ≤ n) (h1 : n < 9223372036854775808) : bits .and .i64 n 1 = n % 2 := bits_mask .i64 63 (by decide) wraps_i64 1 (by decide) n h0 h1
theorem low_ten (n : Int) (h0 : 0 ≤ n) (h1 : n < 9223372036854775808) : bits .and .i64 n 1023 = n % 1024 := bits_mask .i64 63 (by decide) wraps_i64 10 (by decide) n h0 h1


end Go.Proofs.Ytmchjfiaphkpdaa
