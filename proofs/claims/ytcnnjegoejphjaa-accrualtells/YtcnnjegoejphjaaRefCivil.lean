/-
  The document's own answer to chapter 2: the walks of leap, Last, Right, Number.
-/
import Derived.Test.YtcnnjegoejphjaaCivil3
import Derived.Test.YtcnnjegoejphjaaCal2
namespace Go.Proofs.Ytcnnjegoejphjaa
open Go.RowKit

set_option maxHeartbeats 1000000 in
theorem refLeap_any (y : Int) (w : World) (y0 : 0 ≤ y) :
    Calls Try.prog 35 #[.int .i64 y] w fun e w' => e = .returned (.bool (Cal.leapB y)) ∧ w' = w := by
  by_cases h4 : y % 4 = 0
  · by_cases h1 : y % 100 = 0
    · by_cases h2 : y % 400 = 0
      · have e : Cal.leapB y = true := by simp [Cal.leapB, h2]
        go_enter Try.func35, Try.ntmps35
        go_wp2
        go_ret
        exact ⟨ret_bool (by rw [e]), rfl⟩
      · have e : Cal.leapB y = false := by simp [Cal.leapB, h2, h1]
        go_enter Try.func35, Try.ntmps35
        go_wp2
        go_ret
        exact ⟨ret_bool (by rw [e]; simp [h2]), rfl⟩
    · have e : Cal.leapB y = true := by simp [Cal.leapB, h4, h1]
      go_enter Try.func35, Try.ntmps35
      go_wp2
      go_ret
      exact ⟨ret_bool (by rw [e]), rfl⟩
  · have e : Cal.leapB y = false := by simp [Cal.leapB, h4]; omega
    go_enter Try.func35, Try.ntmps35
    go_wp2
    go_ret
    exact ⟨ret_bool (by rw [e]), rfl⟩

set_option maxHeartbeats 1000000 in
theorem refLast_any (y m : Int) (w : World) :
    Calls Try.prog 32 #[.int .i64 y, .int .i64 m] w fun e w' => e = .returned (.int .i64 (Cal.last y m)) ∧ w' = w := by
  by_cases h : 1 ≤ y ∧ y ≤ 9999 ∧ 1 ≤ m ∧ m ≤ 12
  · obtain ⟨h1, h2, h3, h4⟩ := h
    have hl : Cal.last y m = if m = 2 then 28 + Cal.lp y else if m = 4 ∨ m = 6 ∨ m = 9 ∨ m = 11 then 30 else 31 := by
      unfold Cal.last; rw [if_pos ⟨h1, h2, h3, h4⟩]
    have HL : Hid (Cal.last y m = if m = 2 then 28 + Cal.lp y else if m = 4 ∨ m = 6 ∨ m = 9 ∨ m = 11 then 30 else 31) := hl
    clear hl
    have HB : Hid (Cal.leapB y = decide (Cal.lp y = 1)) := Cal.leapB_lp y
    have H01 : Hid (Cal.lp y = 0 ∨ Cal.lp y = 1) := Cal.lp_01 y
    rcases Cal.months h3 h4 with rfl | rfl | rfl | rfl | rfl | rfl | rfl | rfl | rfl | rfl | rfl | rfl
    case inr.inl =>
      cases hb : Cal.leapB y
      · go_enter Try.func32, Try.ntmps32
        go_wp2_with (go_at_call 35; refine (refLeap_any _ _ (by omega)).mono ?_; rintro e w' ⟨rfl, rfl⟩; rw [hb])
        go_ret
        exact ⟨ret_int (by rw [HL.out]; have := HB.out; rw [hb] at this; have := H01.out; simp at *; omega), rfl⟩
      · go_enter Try.func32, Try.ntmps32
        go_wp2_with (go_at_call 35; refine (refLeap_any _ _ (by omega)).mono ?_; rintro e w' ⟨rfl, rfl⟩; rw [hb])
        go_ret
        exact ⟨ret_int (by rw [HL.out]; have := HB.out; rw [hb] at this; have := H01.out; simp at *; omega), rfl⟩
    all_goals
      go_enter Try.func32, Try.ntmps32
      go_wp2_with fail
      go_ret
      exact ⟨ret_int (by rw [HL.out]; rfl), rfl⟩
  · have hl := Cal.last_out h
    rw [hl]
    clear hl
    by_cases h1 : y < 1
    · clear h
      go_enter Try.func32, Try.ntmps32
      go_wp2
      go_ret
      exact ⟨rfl, rfl⟩
    · by_cases h2 : 9999 < y
      · clear h
        go_enter Try.func32, Try.ntmps32
        go_wp2
        go_ret
        exact ⟨rfl, rfl⟩
      · by_cases h3 : m < 1
        · clear h
          go_enter Try.func32, Try.ntmps32
          go_wp2
          go_ret
          exact ⟨rfl, rfl⟩
        · have h4 : 12 < m := by omega
          clear h
          go_enter Try.func32, Try.ntmps32
          go_wp2
          go_ret
          exact ⟨rfl, rfl⟩

set_option maxHeartbeats 1000000 in
theorem refRight_any (y m d : Int) (w : World) :
    Calls Try.prog 23 #[.agg #[.int .i64 y, .int .i64 m, .int .i64 d]] w fun e w' => e = .returned (.bool (Cal.rightB y m d)) ∧ Below w.heap.size w w' := by
  have hbel : Below w.heap.size w (w.alloc (.cells #[.int .i64 y, .int .i64 m, .int .i64 d] 29)) := (Below.refl _ _).alloc (Nat.le_refl _) _
  by_cases h1 : 1 ≤ d
  · go_enter Try.func23, Try.ntmps23
    go_wp2
    go_quiet ((go_at_call 32; exact Calls.quiet_of_same (refLast_any _ _ _)))
    go_wp2
    go_ret
    exact ⟨ret_bool (by simp [Cal.rightB, h1]), below_draws hbel _⟩
  · have hd : decide (1 ≤ d) = false := by simpa using h1
    go_enter Try.func23, Try.ntmps23
    go_wp2
    go_quiet ((go_at_call 32; exact Calls.quiet_of_same (refLast_any _ _ _)))
    go_wp2
    go_ret
    exact ⟨ret_bool (by simp [Cal.rightB]; omega), below_draws hbel _⟩

set_option maxHeartbeats 1000000 in
theorem refNumber_any (y m d : Int) (w : World) :
    Calls Try.prog 24 #[.agg #[.int .i64 y, .int .i64 m, .int .i64 d]] w fun e w' => e = .returned (.int .i64 (Cal.num y m d)) ∧ Below w.heap.size w w' := by
  have hbel : Below w.heap.size w (w.alloc (.cells #[.int .i64 y, .int .i64 m, .int .i64 d] 29)) := (Below.refl _ _).alloc (Nat.le_refl _) _
  cases hr : Cal.rightB y m d
  · rw [Cal.num_wrong hr]
    go_enter Try.func24, Try.ntmps24
    go_wp2_with (go_at_call 23; refine (refRight_any _ _ _ _).mono ?_; rintro e w1 ⟨rfl, b1⟩; rw [hr])
    go_ret
    exact ⟨rfl, below_then hbel b1⟩
  · rw [Cal.num_right hr]
    obtain ⟨d1, d2, y1, y2, m1, m2⟩ := Cal.right_in hr
    have HR : Hid (Cal.rightB y m d = true) := hr
    clear hr
    have d3 := (Cal.last_lo y m).2
    obtain ⟨P, hP⟩ : ∃ P, Cal.dby y = P := ⟨_, rfl⟩
    obtain ⟨g0, g1⟩ := Cal.dby_bd y y1 (by omega)
    rw [hP] at g0 g1 ⊢
    have HP : Hid (365 * (y - 1) + (y - 1) / 4 - (y - 1) / 100 + (y - 1) / 400 = P) := hP
    clear hP
    go_enter Try.func24, Try.ntmps24
    go_wp2_with (go_at_call 23; refine (refRight_any _ _ _ _).mono ?_; rintro e w1 ⟨rfl, b1⟩; rw [HR.out]; obtain ⟨hc, hf⟩ := bcell b1; have b2 := below_then hbel b1; have hz : w.heap.size < w1.heap.size := by (have := b1.size; simp at this; omega))
    rw [HP.out]
    go_loop [4, 5] (fun t k => ∃ c : Int, 1 ≤ c ∧ c ≤ m ∧ k = .int .i64 c ∧ t = .int .i64 (P + Cal.cum y c)) (fun _ k => (m - intOf k).toNat)
    case atStart => exact ⟨1, by omega, by omega, rfl, congrArg (Value.int .i64) (by rw [Cal.cum_one]; omega)⟩
    case round =>
      obtain ⟨c, c1, c2, rfl, rfl⟩ := hrel
      obtain ⟨cb0, cb1⟩ := Cal.cum_bd y c c1 (by omega)
      by_cases hlt : c < m
      · have hs := Cal.cum_succ y c y1 y2 c1 (by omega)
        have HS : Hid (Cal.cum y (c + 1) = Cal.cum y c + Cal.last y c) := hs
        clear hs
        obtain ⟨l0, l1⟩ := Cal.last_lo y c
        go_wp2_with (go_at_call 32; refine (refLast_any _ _ _).mono ?_; rintro e w' ⟨rfl, rfl⟩)
        go_round
        case rel => exact ⟨c + 1, by omega, by omega, rfl, congrArg (Value.int .i64) (by rw [HS.out]; omega)⟩
        case measure => simp [intOf]; omega
      · have hcm : c = m := by omega
        subst hcm
        go_wp2
        go_ret
        exact ⟨rfl, b2⟩
end Go.Proofs.Ytcnnjegoejphjaa
