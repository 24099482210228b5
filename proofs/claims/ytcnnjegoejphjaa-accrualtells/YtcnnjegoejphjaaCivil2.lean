/-
  Package civil: the walks of Right, Number, Of, Shift, Before.
-/
import Derived.Test.YtcnnjegoejphjaaCivil
namespace Go.Proofs.Ytcnnjegoejphjaa
open Go.RowKit

set_option maxHeartbeats 1000000 in
theorem right_date (y m d : Int) (w : World) :
    Calls Try.prog 18 #[.agg #[.int .i64 y, .int .i64 m, .int .i64 d]] w fun e w' => e = .returned (.bool (Cal.rightB y m d)) ∧ Below w.heap.size w w' := by
  have hbel : Below w.heap.size w (w.alloc (.cells #[.int .i64 y, .int .i64 m, .int .i64 d] 23)) := (Below.refl _ _).alloc (Nat.le_refl _) _
  by_cases h1 : 1 ≤ d
  · go_enter Try.func18, Try.ntmps18
    go_wp2
    go_quiet ((go_at_call 27; exact Calls.quiet_of_same (last_any _ _ _)))
    go_wp2
    go_ret
    exact ⟨ret_bool (by simp [Cal.rightB, h1]), below_draws hbel _⟩
  · have hd : decide (1 ≤ d) = false := by simpa using h1
    go_enter Try.func18, Try.ntmps18
    go_wp2
    go_quiet ((go_at_call 27; exact Calls.quiet_of_same (last_any _ _ _)))
    go_wp2
    go_ret
    exact ⟨ret_bool (by simp [Cal.rightB]; omega), below_draws hbel _⟩

set_option maxHeartbeats 1000000 in
theorem number_any (y m d : Int) (w : World) :
    Calls Try.prog 15 #[.agg #[.int .i64 y, .int .i64 m, .int .i64 d]] w fun e w' => e = .returned (.int .i64 (Cal.num y m d)) ∧ Below w.heap.size w w' := by
  have hbel : Below w.heap.size w (w.alloc (.cells #[.int .i64 y, .int .i64 m, .int .i64 d] 23)) := (Below.refl _ _).alloc (Nat.le_refl _) _
  cases hr : Cal.rightB y m d
  · rw [Cal.num_wrong hr]
    go_enter Try.func15, Try.ntmps15
    go_wp2_with (go_at_call 18; refine (right_date _ _ _ _).mono ?_; rintro e w1 ⟨rfl, b1⟩; rw [hr])
    go_ret
    exact ⟨rfl, below_then hbel b1⟩
  · rw [Cal.num_right hr]
    obtain ⟨d1, d2, y1, y2, m1, m2⟩ := Cal.right_in hr
    have HR : Hid (Cal.rightB y m d = true) := hr
    clear hr
    have d3 := (Cal.last_lo y m).2
    have g := Cal.dby_bd y y1 (by omega)
    obtain ⟨g0, g1⟩ := g
    go_enter Try.func15, Try.ntmps15
    go_upto_region 3 with (go_at_call 18; refine (right_date _ _ _ _).mono ?_; rintro e w1 ⟨rfl, b1⟩; rw [HR.out])
    obtain ⟨hc, hf⟩ := bcell b1
    have b2 := below_then hbel b1
    have hz : w.heap.size < w1.heap.size := by have := b1.size; simp at this; omega
    clear b1
    go_quiet ((go_at_call 26; exact Calls.quiet_of_same (daysAhead_any _ _ (by omega) (by omega))))
    go_wp2
    go_loop [3, 4] (fun t k => ∃ c : Int, 1 ≤ c ∧ c ≤ m ∧ k = .int .i64 c ∧ t = .int .i64 (Cal.dby y + Cal.cum y c + d - 1)) (fun _ k => (m - intOf k).toNat)
    case atStart => exact ⟨1, by omega, by omega, rfl, congrArg (Value.int .i64) (by rw [Cal.cum_one]; omega)⟩
    case round =>
      obtain ⟨c, c1, c2, rfl, rfl⟩ := hrel
      have cb := Cal.cum_bd y c c1 (by omega)
      obtain ⟨cb0, cb1⟩ := cb
      by_cases hlt : c < m
      · have hs := Cal.cum_succ y c y1 y2 c1 (by omega)
        have HS : Hid (Cal.cum y (c + 1) = Cal.cum y c + Cal.last y c) := hs
        clear hs
        obtain ⟨l0, l1⟩ := Cal.last_lo y c
        go_wp2_with (go_at_call 27; refine (last_any _ _ _).mono ?_; rintro e w' ⟨rfl, rfl⟩)
        go_round
        case rel => exact ⟨c + 1, by omega, by omega, rfl, congrArg (Value.int .i64) (by rw [HS.out]; omega)⟩
        case measure => simp [intOf]; omega
      · have hcm : c = m := by omega
        subst hcm
        go_wp2
        go_ret
        exact ⟨rfl, below_draws b2 _⟩

set_option maxHeartbeats 1000000 in
theorem of_no (n : Int) (w : World) (h : n < 0 ∨ 3652059 ≤ n) :
    Calls Try.prog 14 #[.int .i64 n] w fun e w' => e = .returned (.agg #[.int .i64 0, .int .i64 0, .int .i64 0]) ∧ Below w.heap.size w w' := by
  rcases h with h | h
  · go_enter Try.func14, Try.ntmps14
    go_wp2
    exact bodyPost_ret (v := .agg #[.int .i64 0, .int .i64 0, .int .i64 0]) (by simp [results, Try.results14, go_sem]) rfl ⟨rfl, (Below.refl _ _).alloc (Nat.le_refl _) _⟩
  · have h' : ¬ n < 0 := by omega
    go_enter Try.func14, Try.ntmps14
    go_wp2_with (go_at_call 26; refine (daysAhead_any _ _ (by omega) (by omega)).mono ?_; rintro e w' ⟨rfl, rfl⟩; rw [Cal.dby_end])
    exact bodyPost_ret (v := .agg #[.int .i64 0, .int .i64 0, .int .i64 0]) (by simp [results, Try.results14, go_sem]) rfl ⟨rfl, (Below.refl _ _).alloc (Nat.le_refl _) _⟩

theorem Cal.of_end (n y k : Int) (a : 0 ≤ n - Cal.dby y - Cal.cum y k) (b : n - Cal.dby y - Cal.cum y k < Cal.last y k) :
    Cal.rightB y k (n - Cal.dby y - Cal.cum y k + 1) = true ∧ Cal.num y k (n - Cal.dby y - Cal.cum y k + 1) = n := by
  have h : Cal.rightB y k (n - Cal.dby y - Cal.cum y k + 1) = true := Cal.rightB_mk (by omega) (by omega)
  exact ⟨h, by rw [Cal.num_right h]; omega⟩

set_option maxHeartbeats 1000000 in
theorem of_yes (n : Int) (w : World) (h0 : 0 ≤ n) (h1 : n < 3652059) :
    Calls Try.prog 14 #[.int .i64 n] w fun e w' => (∃ y m d : Int, e = .returned (.agg #[.int .i64 y, .int .i64 m, .int .i64 d]) ∧ Cal.rightB y m d = true ∧ Cal.num y m d = n) ∧ Below w.heap.size w w' := by
  have hg : n < Cal.dby (n / 365 + 1 + 1) := by unfold Cal.dby; omega
  go_enter Try.func14, Try.ntmps14
  go_wp2_with (go_at_call 26; refine (daysAhead_any _ _ (by omega) (by omega)).mono ?_; rintro e w' ⟨rfl, rfl⟩; rw [Cal.dby_end])
  go_loop [3] (fun t => ∃ y : Int, 1 ≤ y ∧ y ≤ 10006 ∧ n < Cal.dby (y + 1) ∧ t = .int .i64 y) (fun t => (intOf t).toNat)
  case atStart => exact ⟨_, by omega, by omega, hg, rfl⟩
  case round =>
    obtain ⟨y, y1, y2, hy, rfl⟩ := hrel
    clear hg
    by_cases hc : n < Cal.dby y
    · have y3 : 1 < y := by
        rcases Int.lt_or_le 1 y with g | g
        · exact g
        · have : y = 1 := by omega
          subst this
          rw [Cal.dby_one] at hc
          omega
      go_wp2_with (go_at_call 26; refine (daysAhead_any _ _ (by omega) (by omega)).mono ?_; rintro e w' ⟨rfl, rfl⟩)
      go_round
      case rel => exact ⟨y - 1, by omega, by omega, by rw [show y - 1 + 1 = y by omega]; exact hc, rfl⟩
      case measure => simp [intOf]; omega
    · have y3 : y ≤ 9999 := by
        rcases Int.lt_or_le 9999 y with g | g
        · have := Cal.dby_mono 10000 y (by omega)
          rw [Cal.dby_end] at this
          omega
        · exact g
      obtain ⟨g0, g1⟩ := Cal.dby_bd y y1 (by omega)
      rw [Cal.dby_succ] at hy
      go_wp2_with (go_at_call 26; refine (daysAhead_any _ _ (by omega) (by omega)).mono ?_; rintro e w' ⟨rfl, rfl⟩)
      go_loop [4, 5] (fun r k => ∃ m : Int, 1 ≤ m ∧ m ≤ 12 ∧ k = .int .i64 m ∧ 0 ≤ n - Cal.dby y - Cal.cum y m ∧ r = .int .i64 (n - Cal.dby y - Cal.cum y m)) (fun _ k => (12 - intOf k).toNat)
      case atStart => exact ⟨1, by omega, by omega, rfl, by rw [Cal.cum_one]; omega, congrArg (Value.int .i64) (by rw [Cal.cum_one]; omega)⟩
      case round =>
        obtain ⟨m, m1, m2, rfl, hr, rfl⟩ := hrel
        have cs := Cal.cum_succ y m y1 y3 m1 m2
        obtain ⟨cb0, cb1⟩ := Cal.cum_bd y m m1 (by omega)
        obtain ⟨l0, l1⟩ := Cal.last_lo y m
        have HS : Hid (Cal.cum y (m + 1) = Cal.cum y m + Cal.last y m) := cs
        clear cs
        by_cases hlt : Cal.last y m ≤ n - Cal.dby y - Cal.cum y m
        · have m3 : m < 12 := by
            rcases Int.lt_or_le m 12 with g | g
            · exact g
            · have e : m = 12 := by omega
              subst e
              have h13 := Cal.cum_end y
              have := HS.out
              rw [show (12 : Int) + 1 = 13 by rfl] at this
              omega
          go_wp2_with (go_at_call 27; refine (last_any _ _ _).mono ?_; rintro e w' ⟨rfl, rfl⟩)
          go_round
          case rel => exact ⟨m + 1, by omega, by omega, rfl, by rw [HS.out]; omega, congrArg (Value.int .i64) (by rw [HS.out]; omega)⟩
          case measure => simp [intOf]; omega
        · have fin := Cal.of_end n y m hr (by omega)
          have HF : Hid (Cal.rightB y m (n - Cal.dby y - Cal.cum y m + 1) = true ∧ Cal.num y m (n - Cal.dby y - Cal.cum y m + 1) = n) := fin
          clear fin
          go_wp2_with (go_at_call 27; refine (last_any _ _ _).mono ?_; rintro e w' ⟨rfl, rfl⟩)
          refine bodyPost_ret (v := .agg #[.int .i64 y, .int .i64 m, .int .i64 (n - Cal.dby y - Cal.cum y m + 1)]) (by simp [results, Try.results14, go_sem]) rfl ⟨⟨y, m, _, rfl, HF.out⟩, ?_⟩
          exact (Below.refl _ _).alloc (Nat.le_refl _) _

end Go.Proofs.Ytcnnjegoejphjaa
