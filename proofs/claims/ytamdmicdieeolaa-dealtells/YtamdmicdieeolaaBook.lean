/-
  Package cascadebook: the walk of Within.
-/
import Derived.Test.YtamdmicdieeolaaBase
namespace Go.Proofs.Ytamdmicdieeolaa
open Go.RowKit

theorem tmod_to_emod (n m : Int) (hm : 0 < m) : n % m = n.tmod m + (if n.tmod m < 0 then m else 0) := by
  have h1 := Int.tmod_eq_emod (a := n) (b := m)
  have h2 := Int.emod_nonneg n (b := m) (by omega)
  have h3 := Int.emod_lt_of_pos n hm
  rw [h1]
  split <;> rename_i g
  · rw [if_neg (by omega)]; omega
  · by_cases h0 : 0 ≤ n ∨ m ∣ n
    · exact absurd h0 (by simpa using g)
    · have e : (m.natAbs : Int) = m := by omega
      have hz : n % m ≠ 0 := fun z => h0 (Or.inr (Int.dvd_of_emod_eq_zero z))
      rw [if_pos (by omega)]; omega

theorem tmod_small (n m : Int) (hm : 0 < m) : -m ≤ n.tmod m ∧ n.tmod m < m := by
  have h2 := Int.emod_nonneg n (b := m) (by omega)
  have h3 := Int.emod_lt_of_pos n hm
  have h := tmod_to_emod n m hm
  split at h <;> omega

set_option maxHeartbeats 1000000 in
/-- Within: n brought into lo .. hi. -/
theorem within_any (n lo hi : Int) (l0 : -4611686018427387904 ≤ lo) (h : lo ≤ hi) (h1 : hi ≤ 4611686018427387903) (d : hi - lo ≤ 4611686018427387903) (w : World) :
    Calls Try.prog 15 #[.int .i64 n, .int .i64 lo, .int .i64 hi] w fun e w' => e = .returned (.int .i64 (lo + n % (hi - lo + 1))) ∧ w' = w := by
  have ht := tmod_to_emod n (hi - lo + 1) (by omega)
  have hs := tmod_small n (hi - lo + 1) (by omega)
  by_cases h0 : 0 ≤ n
  · have g : 0 ≤ n % (hi - lo + 1) := Int.emod_nonneg _ (by omega)
    have g1 : n % (hi - lo + 1) < hi - lo + 1 := Int.emod_lt_of_pos _ (by omega)
    clear ht hs
    go_enter Try.func15, Try.ntmps15
    go_wp2
    go_ret
    exact ⟨rfl, rfl⟩
  · obtain ⟨s1, s2⟩ := hs
    generalize hE : n % (hi - lo + 1) = E at *
    have HT : Hid (E = n.tmod (hi - lo + 1) + (if n.tmod (hi - lo + 1) < 0 then hi - lo + 1 else 0)) := ht
    clear ht hE
    by_cases hneg : n.tmod (hi - lo + 1) < 0
    · go_enter Try.func15, Try.ntmps15
      go_wp2
      go_ret
      exact ⟨congrArg Ending.returned (congrArg (Value.int .i64) (by rw [HT.out, if_pos hneg]; omega)), rfl⟩
    · go_enter Try.func15, Try.ntmps15
      go_wp2
      go_ret
      exact ⟨congrArg Ending.returned (congrArg (Value.int .i64) (by rw [HT.out, if_neg (by omega)]; omega)), rfl⟩
end Go.Proofs.Ytamdmicdieeolaa
