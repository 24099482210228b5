/-
  Package civil: the walks of its functions.
-/
import Derived.Test.YtcnnjegoejphjaaBase
import Derived.Test.YtcnnjegoejphjaaCal
namespace Go.Proofs.Ytcnnjegoejphjaa
open Go.RowKit

set_option maxHeartbeats 1000000 in
theorem isLeap_any (y : Int) (w : World) (y0 : 0 ≤ y) :
    Calls Try.prog 33 #[.int .i64 y] w fun e w' => e = .returned (.bool (Cal.leapB y)) ∧ w' = w := by
  by_cases h4 : y % 4 = 0
  · by_cases h1 : y % 100 = 0
    · by_cases h2 : y % 400 = 0
      · have e : Cal.leapB y = true := by simp [Cal.leapB, h2]
        go_enter Try.func33, Try.ntmps33
        go_wp2
        go_ret
        exact ⟨ret_bool (by rw [e]), rfl⟩
      · have e : Cal.leapB y = false := by simp [Cal.leapB, h2, h1]
        go_enter Try.func33, Try.ntmps33
        go_wp2
        go_ret
        exact ⟨ret_bool (by rw [e]; simp [h2]), rfl⟩
    · have e : Cal.leapB y = true := by simp [Cal.leapB, h4, h1]
      go_enter Try.func33, Try.ntmps33
      go_wp2
      go_ret
      exact ⟨ret_bool (by rw [e]), rfl⟩
  · have e : Cal.leapB y = false := by simp [Cal.leapB, h4]; omega
    have h2 : ¬ y % 400 = 0 := by omega
    go_enter Try.func33, Try.ntmps33
    go_wp2
    go_ret
    exact ⟨ret_bool (by rw [e]; simp [h2]), rfl⟩

set_option maxHeartbeats 1000000 in
theorem last_any (y m : Int) (w : World) :
    Calls Try.prog 27 #[.int .i64 y, .int .i64 m] w fun e w' => e = .returned (.int .i64 (Cal.last y m)) ∧ w' = w := by
  by_cases h : 1 ≤ y ∧ y ≤ 9999 ∧ 1 ≤ m ∧ m ≤ 12
  · obtain ⟨h1, h2, h3, h4⟩ := h
    have hl : Cal.last y m = if m = 2 then 28 + Cal.lp y else if m = 4 ∨ m = 6 ∨ m = 9 ∨ m = 11 then 30 else 31 := by
      unfold Cal.last; rw [if_pos ⟨h1, h2, h3, h4⟩]
    have HL : Hid (Cal.last y m = if m = 2 then 28 + Cal.lp y else if m = 4 ∨ m = 6 ∨ m = 9 ∨ m = 11 then 30 else 31) := hl
    clear hl
    have HB : Hid (Cal.leapB y = decide (Cal.lp y = 1)) := Cal.leapB_lp y
    have H01 : Hid (Cal.lp y = 0 ∨ Cal.lp y = 1) := Cal.lp_01 y
    rcases Cal.months h3 h4 with rfl | rfl | rfl | rfl | rfl | rfl | rfl | rfl | rfl | rfl | rfl | rfl
    case inr.inl =>
      cases hb : Cal.leapB y
      · go_enter Try.func27, Try.ntmps27
        go_wp2_with (go_at_call 33; refine (isLeap_any _ _ (by omega)).mono ?_; rintro e w' ⟨rfl, rfl⟩; rw [hb])
        go_ret
        exact ⟨ret_int (by rw [HL.out]; have := HB.out; rw [hb] at this; have := H01.out; simp at *; omega), rfl⟩
      · go_enter Try.func27, Try.ntmps27
        go_wp2_with (go_at_call 33; refine (isLeap_any _ _ (by omega)).mono ?_; rintro e w' ⟨rfl, rfl⟩; rw [hb])
        go_ret
        exact ⟨ret_int (by rw [HL.out]; have := HB.out; rw [hb] at this; have := H01.out; simp at *; omega), rfl⟩
    all_goals
      go_enter Try.func27, Try.ntmps27
      go_wp2_with fail
      go_ret
      exact ⟨ret_int (by rw [HL.out]; rfl), rfl⟩
  · have hl := Cal.last_out h
    rw [hl]
    clear hl
    by_cases h1 : y < 1
    · clear h
      go_enter Try.func27, Try.ntmps27
      go_wp2
      go_ret
      exact ⟨rfl, rfl⟩
    · by_cases h2 : 9999 < y
      · clear h
        go_enter Try.func27, Try.ntmps27
        go_wp2
        go_ret
        exact ⟨rfl, rfl⟩
      · by_cases h3 : m < 1
        · clear h
          go_enter Try.func27, Try.ntmps27
          go_wp2
          go_ret
          exact ⟨rfl, rfl⟩
        · have h4 : 12 < m := by omega
          clear h
          go_enter Try.func27, Try.ntmps27
          go_wp2
          go_ret
          exact ⟨rfl, rfl⟩

set_option maxHeartbeats 1000000 in
theorem daysAhead_any (y : Int) (w : World) (h0 : 1 ≤ y) (h1 : y ≤ 1000000) :
    Calls Try.prog 26 #[.int .i64 y] w fun e w' => e = .returned (.int .i64 (Cal.dby y)) ∧ w' = w := by
  go_enter Try.func26, Try.ntmps26
  go_wp2
  go_ret
  exact ⟨rfl, rfl⟩

end Go.Proofs.Ytcnnjegoejphjaa
