/-
  Plain fact on the calendar: each number within it is a date's. Nothing of the program.
-/
import Derived.Test.YtcnnjegoejphjaaCal2
namespace Go.Proofs.Ytcnnjegoejphjaa

theorem Cal.date_exists : ∀ n : Nat, n < 3652059 → ∃ y m d, Cal.rightB y m d = true ∧ Cal.num y m d = n
  | 0, _ => ⟨1, 1, 1, by decide, by decide⟩
  | n + 1, h => by
    obtain ⟨y, m, d, r, e⟩ := Cal.date_exists n (by omega)
    obtain ⟨a1, a2, a3, a4, a5, a6⟩ := Cal.right_in r
    have hn := Cal.num_right r
    by_cases c1 : d < Cal.last y m
    · have r' : Cal.rightB y m (d + 1) = true := Cal.rightB_mk (by omega) (by omega)
      exact ⟨y, m, d + 1, r', by rw [Cal.num_right r']; omega⟩
    · have cs := Cal.cum_succ y m a3 a4 a5 a6
      by_cases c2 : m < 12
      · have l := Cal.last_28 a3 a4 (show 1 ≤ m + 1 by omega) (by omega)
        have r' : Cal.rightB y (m + 1) 1 = true := Cal.rightB_mk (by omega) (by omega)
        exact ⟨y, m + 1, 1, r', by rw [Cal.num_right r']; omega⟩
      · have e12 : m = 12 := by omega
        subst e12
        have ce := Cal.cum_end y
        rw [show (12 : Int) + 1 = 13 by rfl] at cs
        have ds := Cal.dby_succ y
        have y9 : y + 1 ≤ 9999 := by
          rcases Int.lt_or_le y 9999 with g | g
          · omega
          · have e9 : y = 9999 := by omega
            subst e9
            have := Cal.dby_end
            rw [show (9999 : Int) + 1 = 10000 by rfl] at ds
            omega
        have q := Cal.num_first (y + 1) (by omega) y9
        have l := Cal.last_28 (y := y + 1) (m := 1) (by omega) y9 (by omega) (by omega)
        exact ⟨y + 1, 1, 1, Cal.rightB_mk (by omega) (by omega), by rw [q]; omega⟩
end Go.Proofs.Ytcnnjegoejphjaa
