/-
  Plain facts on halves: what a product per a number is to the nearest. Nothing of the program's run.
-/
import Derived.Test.YtcnnjegoejphjaaAcc
import Derived.Test.YtcnnjegoejphjaaCalDate
namespace Go.Proofs.Ytcnnjegoejphjaa
namespace Acc

/-- A product to the nearest, a half to the even. -/
def half (p d : Int) : Int := p / d + if upB (p / d) (p % d) d 2 then 1 else 0
theorem half_raw (a b d : Int) : mdRaw a b d 2 = half (a * b) d := rfl
/-- It is off by a half at most. -/
theorem half_near (p d : Int) (hd : 1 ≤ d) : 2 * p - d ≤ 2 * (half p d * d) ∧ 2 * (half p d * d) ≤ 2 * p + d := by
  have e := Int.mul_ediv_add_emod p d
  have r0 := Int.emod_nonneg p (b := d) (by omega)
  have r1 := Int.emod_lt_of_pos p (b := d) (by omega)
  have hm : p / d * d = d * (p / d) := Int.mul_comm _ _
  unfold half
  rw [upB_half]
  split
  · rename_i h
    rw [Int.add_mul, hm]
    simp at h
    omega
  · rename_i h
    rw [Int.add_mul, hm]
    simp at h
    omega
/-- The greater product is no less. -/
theorem half_mono (p q d : Int) (hd : 1 ≤ d) (h : p ≤ q) : half p d ≤ half q d := by
  have hq : p / d ≤ q / d := Int.ediv_le_ediv (by omega) h
  by_cases e : p / d = q / d
  · have e1 := Int.mul_ediv_add_emod p d
    have e2 := Int.mul_ediv_add_emod q d
    rw [e] at e1
    unfold half
    rw [e, upB_half, upB_half]
    split
    · rename_i h1
      rw [if_pos]
      · omega
      · simp at h1 ⊢
        omega
    · split <;> omega
  · unfold half
    split <;> split <;> omega
/-- Two and their sum. -/
theorem half_sum (p q d : Int) (hd : 1 ≤ d) : -1 ≤ half p d + half q d - half (p + q) d ∧ half p d + half q d - half (p + q) d ≤ 1 := by
  have h1 := half_near p d hd
  have h2 := half_near q d hd
  have h3 := half_near (p + q) d hd
  generalize half p d = x at *
  generalize half q d = y at *
  generalize half (p + q) d = z at *
  have e : (x + y - z) * d = x * d + y * d - z * d := by rw [Int.sub_mul, Int.add_mul]
  constructor
  · rcases Int.lt_or_le (x + y - z) (-1) with g | g
    · have : (x + y - z) * d ≤ -2 * d := Int.mul_le_mul_of_nonneg_right (by omega) (by omega)
      omega
    · exact g
  · rcases Int.lt_or_le 1 (x + y - z) with g | g
    · have : 2 * d ≤ (x + y - z) * d := Int.mul_le_mul_of_nonneg_right (by omega) (by omega)
      omega
    · exact g
theorem half_bd (p d : Int) (hd : 1 ≤ d) (hp : 0 ≤ p) (hp1 : p ≤ 1152921504606846976) : 0 ≤ half p d ∧ half p d ≤ 1152921504606846977 := by
  have a0 : 0 ≤ p / d := Int.ediv_nonneg hp (by omega)
  have a1 : p / d ≤ p := Int.ediv_le_self _ hp
  unfold half
  split <;> omega
theorem half_zero (d : Int) (hd : 1 ≤ d) : half 0 d = 0 := by
  unfold half
  rw [Int.zero_ediv, Int.zero_emod, upB_zero _ _ _ hd]
  simp
/-- What a balance bears by actual days: balance and rate, days that are few. -/
theorem bear {b t k y m d p q r n D : Int} (hk : k = 1 ∨ k = 2) (ho : okB y m d p q r = true) (hD : Cal.num p q r - Cal.num y m d = D) (b0 : 0 ≤ b) (b1 : b ≤ 1152921504606846976) (t0 : 0 ≤ t) (t1 : t ≤ 5000) (hn : b * (t * D) = n) (n1 : n ≤ 1152921504606846976) :
    intB b t k y m d p q r = true ∧ intV b t k y m d p q r = half n (10000 * per k) ∧ 0 ≤ n := by
  obtain ⟨h1, h2, h3⟩ := okB_out ho
  have na := Cal.num_bd h1
  have nb := Cal.num_bd h2
  have hp := per_bd k
  have hd := days_act ho hk
  rw [hD] at hd
  have f := rate_bd t D t0 t1 (by omega) (by omega)
  have f0 : 0 ≤ t * D := Int.mul_nonneg t0 (by omega)
  obtain ⟨e1, e2⟩ := int_in (b := b) (k := k) (y := y) (m := m) (d := d) (p := p) (q := q) (r := r) t0 t1
  rw [hd] at e1 e2
  obtain ⟨g1, g2⟩ := md_amount b (t * D) (10000 * per k) 2 b0 b1 f0 (by omega) (by omega) (by omega) (by omega) (by omega) (by omega)
  refine ⟨by rw [e1, g1], by rw [e2, g2, half_raw, hn], ?_⟩
  rw [← hn]
  exact Int.mul_nonneg b0 f0
theorem date_at (n : Int) (h0 : 0 ≤ n) (h1 : n < 3652059) : ∃ y m d, Cal.rightB y m d = true ∧ Cal.num y m d = n := by
  obtain ⟨y, m, d, r, e⟩ := Cal.date_exists n.toNat (by omega)
  exact ⟨y, m, d, r, by omega⟩
theorem mul3_le (a b c A B C : Int) (a0 : 0 ≤ a) (b0 : 0 ≤ b) (c0 : 0 ≤ c) (a1 : a ≤ A) (b1 : b ≤ B) (c1 : c ≤ C) : a * (b * c) ≤ A * (B * C) := by
  have h1 : b * c ≤ B * C := Int.mul_le_mul b1 c1 c0 (by omega)
  exact Int.mul_le_mul a1 h1 (Int.mul_nonneg b0 c0) (by omega)
end Acc
end Go.Proofs.Ytcnnjegoejphjaa
