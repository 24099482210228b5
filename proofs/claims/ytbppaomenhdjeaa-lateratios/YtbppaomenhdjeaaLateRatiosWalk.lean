/-
  The walk of LateRatios.
-/
import Derived.Test.YtbppaomenhdjeaaLateRunsWalk
import Derived.Test.YtbppaomenhdjeaaBook
import Derived.Test.YtbppaomenhdjeaaShapeLies
namespace Go.Proofs.Ytbppaomenhdjeaa
open Go.RowKit

theorem atLeast_is {a b p : Int} {v : Bool} (h : atLeastP a b p = v) (w : World) : Calls Try.prog 7 #[.int .i64 a, .int .i64 b, .int .i64 p] w fun e w' => e = .returned (.bool v) ∧ w' = w := h ▸ atLeast_any a b p w
theorem atMost_is {a b p : Int} {v : Bool} (h : atMostP a b p = v) (w : World) : Calls Try.prog 8 #[.int .i64 a, .int .i64 b, .int .i64 p] w fun e w' => e = .returned (.bool v) ∧ w' = w := h ▸ atMost_any a b p w
theorem mayR_no {a b p : Int} (h : a < 0 ∨ 1099511627776 < a ∨ b < 0 ∨ 1099511627776 < b ∨ p < 0 ∨ 100000 < p) : mayR a b p = false := by
  cases hm : mayR a b p with
  | false => rfl
  | true =>
    unfold mayR at hm
    simp only [Bool.and_eq_true, decide_eq_true_eq] at hm
    omega
theorem mayR_yes {a b p : Int} (a0 : 0 ≤ a) (a1 : a ≤ 1099511627776) (b0 : 0 ≤ b) (b1 : b ≤ 1099511627776) (p0 : 0 ≤ p) (p1 : p ≤ 100000) : mayR a b p = true := by
  unfold mayR
  simp only [Bool.and_eq_true, decide_eq_true_eq]
  exact ⟨⟨⟨a0, a1⟩, b0, b1⟩, p0, p1⟩
theorem atLeast_no {a b p : Int} (h : a < 0 ∨ 1099511627776 < a ∨ b < 0 ∨ 1099511627776 < b ∨ p < 0 ∨ 100000 < p) (w : World) : Calls Try.prog 7 #[.int .i64 a, .int .i64 b, .int .i64 p] w fun e w' => e = .returned (.bool false) ∧ w' = w := atLeast_is (by rw [atLeastP, mayR_no h, Bool.false_and]) w
theorem atMost_no {a b p : Int} (h : a < 0 ∨ 1099511627776 < a ∨ b < 0 ∨ 1099511627776 < b ∨ p < 0 ∨ 100000 < p) (w : World) : Calls Try.prog 8 #[.int .i64 a, .int .i64 b, .int .i64 p] w fun e w' => e = .returned (.bool false) ∧ w' = w := atMost_is (by rw [atMostP, mayR_no h, Bool.false_and]) w

set_option maxRecDepth 100000 in
set_option maxHeartbeats 4000000 in
theorem lateRatios_any (a b parts more : Int) (w : World) :
    Calls Try.prog 5 #[.int .i64 a, .int .i64 b, .int .i64 parts, .int .i64 more] w fun e w' => e = .returned (.bool true) ∧ Below w.heap.size w w' := by
  have x0 := Int.emod_nonneg a (b := 1099511627776 - 0 + 1) (by omega)
  have x1 := Int.emod_lt_of_pos a (b := 1099511627776 - 0 + 1) (by omega)
  have y0 := Int.emod_nonneg b (b := 1099511627776 - 0 + 1) (by omega)
  have y1 := Int.emod_lt_of_pos b (b := 1099511627776 - 0 + 1) (by omega)
  have p0 := Int.emod_nonneg parts (b := 100000 - 0 + 1) (by omega)
  have p1 := Int.emod_lt_of_pos parts (b := 100000 - 0 + 1) (by omega)
  have n0 := Int.emod_nonneg more (b := 1125899906842624 - 0 + 1) (by omega)
  have n1 := Int.emod_lt_of_pos more (b := 1125899906842624 - 0 + 1) (by omega)
  obtain ⟨x, hx⟩ : ∃ x, 0 + a % (1099511627776 - 0 + 1) = x := ⟨_, rfl⟩
  obtain ⟨y, hy⟩ : ∃ x, 0 + b % (1099511627776 - 0 + 1) = x := ⟨_, rfl⟩
  obtain ⟨p, hp⟩ : ∃ x, 0 + parts % (100000 - 0 + 1) = x := ⟨_, rfl⟩
  obtain ⟨n, hn⟩ : ∃ x, 0 + more % (1125899906842624 - 0 + 1) = x := ⟨_, rfl⟩
  have HX : Hid (0 + a % (1099511627776 - 0 + 1) = x) := hx
  have HY : Hid (0 + b % (1099511627776 - 0 + 1) = y) := hy
  have HP : Hid (0 + parts % (100000 - 0 + 1) = p) := hp
  have HN : Hid (0 + more % (1125899906842624 - 0 + 1) = n) := hn
  replace x0 : 0 ≤ x := by omega
  replace x1 : x ≤ 1099511627776 := by omega
  replace y0 : 0 ≤ y := by omega
  replace y1 : y ≤ 1099511627776 := by omega
  replace p0 : 0 ≤ p := by omega
  replace p1 : p ≤ 100000 := by omega
  replace n0 : 0 ≤ n := by omega
  replace n1 : n ≤ 1125899906842624 := by omega
  clear hx hy hp hn
  have m0 := Int.emod_nonneg more (b := 1099511627776 - x - 0 + 1) (by omega)
  have m1 := Int.emod_lt_of_pos more (b := 1099511627776 - x - 0 + 1) (by omega)
  obtain ⟨m, hm⟩ : ∃ m, 0 + more % (1099511627776 - x - 0 + 1) = m := ⟨_, rfl⟩
  have HM : Hid (0 + more % (1099511627776 - x - 0 + 1) = m) := hm
  replace m0 : 0 ≤ m := by omega
  replace m1 : x + m ≤ 1099511627776 := by omega
  clear hm
  have z0 : 0 ≤ y * p := Int.mul_nonneg y0 p0
  have z1 : y * p ≤ 109951162777600000 := by
    have h1 : y * p ≤ 1099511627776 * p := Int.mul_le_mul_of_nonneg_right y1 p0
    omega
  have L1 : Hid (atLeastP x y p = decide (y * p ≤ x * 10000)) := by show _ = _; rw [atLeastP, mayR_yes x0 x1 y0 y1 p0 p1, Bool.true_and]
  have L2 : Hid (atMostP x y p = decide (x * 10000 ≤ y * p)) := by show _ = _; rw [atMostP, mayR_yes x0 x1 y0 y1 p0 p1, Bool.true_and]
  have L3 : Hid (atLeastP (x + m) y p = decide (y * p ≤ (x + m) * 10000)) := by show _ = _; rw [atLeastP, mayR_yes (by omega) m1 y0 y1 p0 p1, Bool.true_and]
  have L4 : Hid (atMostP (x + m) y p = decide ((x + m) * 10000 ≤ y * p)) := by show _ = _; rw [atMostP, mayR_yes (by omega) m1 y0 y1 p0 p1, Bool.true_and]
  obtain ⟨z, hz⟩ : ∃ z, y * p = z := ⟨_, rfl⟩
  rw [hz] at L1 L2 L3 L4 z0 z1
  obtain ⟨A, hA⟩ : ∃ A, decide (z ≤ x * 10000) = A := ⟨_, rfl⟩
  obtain ⟨B, hB⟩ : ∃ B, decide (x * 10000 ≤ z) = B := ⟨_, rfl⟩
  rw [hA] at L1
  rw [hB] at L2
  have HA : Hid (decide (z ≤ x * 10000) = A) := hA
  have HB : Hid (decide (x * 10000 ≤ z) = B) := hB
  go_enter Try.func5, Try.ntmps5
  go_upto_region 2 with (first | (go_at_call_of 11 (a); refine (within_any _ _ _ (by omega) (by omega) (by omega) (by omega) _).mono ?_; rintro e wq ⟨rfl, hq⟩; have hq := hq.symm; subst hq; rw [(HX).out]) | (go_at_call_of 11 (b); refine (within_any _ _ _ (by omega) (by omega) (by omega) (by omega) _).mono ?_; rintro e wq ⟨rfl, hq⟩; have hq := hq.symm; subst hq; rw [(HY).out]) | (go_at_call_of 11 (parts); refine (within_any _ _ _ (by omega) (by omega) (by omega) (by omega) _).mono ?_; rintro e wq ⟨rfl, hq⟩; have hq := hq.symm; subst hq; rw [(HP).out]))
  go_upto_region 3 with (first | (go_at_call 7; refine (atLeast_is (L1).out _).mono ?_; rintro e wq ⟨rfl, hq⟩; have hq := hq.symm; subst hq) | (go_at_call 8; refine (atMost_is (L2).out _).mono ?_; rintro e wq ⟨rfl, hq⟩; have hq := hq.symm; subst hq))
  go_upto_region 6 with (go_at_call_of 11 (more); refine (within_any _ _ _ (by omega) (by omega) (by omega) (by omega) _).mono ?_; rintro e wq ⟨rfl, hq⟩; have hq := hq.symm; subst hq; rw [(HM).out])
  have d3 : A = true → Hid (atLeastP (x + m) y p = true) := by
    intro hT
    show _ = _
    rw [L3.out]
    rw [hT] at HA
    have := of_decide_eq_true HA.out
    exact decide_eq_true (by omega)
  have d4 : B = false → Hid (atMostP (x + m) y p = false) := by
    intro hT
    show _ = _
    rw [L4.out]
    rw [hT] at HB
    have := of_decide_eq_false HB.out
    exact decide_eq_false (by omega)
  have d5 : A = false → B = true := by
    intro hT
    have h1 := HA.out
    rw [hT] at h1
    have := of_decide_eq_false h1
    rw [← HB.out]
    exact decide_eq_true (by omega)
  clear hA hB hz L1 L2 L3 L4
  rcases (show (A = true ∧ B = true) ∨ (A = true ∧ B = false) ∨ (A = false ∧ B = true) by cases A <;> cases B <;> simp_all) with ⟨rfl, rfl⟩ | ⟨rfl, rfl⟩ | ⟨rfl, rfl⟩
  · have D3 := d3 rfl
    clear d3 d4 d5 HA HB
    go_upto_region 8 with (go_at_call 7; refine (atLeast_is (D3).out _).mono ?_; rintro e wq ⟨rfl, hq⟩; have hq := hq.symm; subst hq)
    (go_wp2_with (first | (go_at_call_of 11 (more); refine (within_any _ _ _ (by omega) (by omega) (by omega) (by omega) _).mono ?_; rintro e wq ⟨rfl, hq⟩; have hq := hq.symm; subst hq; rw [(HN).out]) | (go_at_call 7; refine (atLeast_no (by omega) _).mono ?_; rintro e wq ⟨rfl, hq⟩; have hq := hq.symm; subst hq) | (go_at_call 8; refine (atMost_no (by omega) _).mono ?_; rintro e wq ⟨rfl, hq⟩; have hq := hq.symm; subst hq) | (go_at_call 3; refine (lateRuns_any _).mono ?_; rintro e w1 ⟨rfl, d1⟩)); go_ret; exact ⟨rfl, d1⟩)
  · have D3 := d3 rfl
    have D4 := d4 rfl
    clear d3 d4 d5 HA HB
    go_upto_region 8 with (first | (go_at_call 7; refine (atLeast_is (D3).out _).mono ?_; rintro e wq ⟨rfl, hq⟩; have hq := hq.symm; subst hq) | (go_at_call 8; refine (atMost_is (D4).out _).mono ?_; rintro e wq ⟨rfl, hq⟩; have hq := hq.symm; subst hq))
    (go_wp2_with (first | (go_at_call_of 11 (more); refine (within_any _ _ _ (by omega) (by omega) (by omega) (by omega) _).mono ?_; rintro e wq ⟨rfl, hq⟩; have hq := hq.symm; subst hq; rw [(HN).out]) | (go_at_call 7; refine (atLeast_no (by omega) _).mono ?_; rintro e wq ⟨rfl, hq⟩; have hq := hq.symm; subst hq) | (go_at_call 8; refine (atMost_no (by omega) _).mono ?_; rintro e wq ⟨rfl, hq⟩; have hq := hq.symm; subst hq) | (go_at_call 3; refine (lateRuns_any _).mono ?_; rintro e w1 ⟨rfl, d1⟩)); go_ret; exact ⟨rfl, d1⟩)
  · clear d3 d4 d5 HA HB
    go_upto_region 8 with fail
    (go_wp2_with (first | (go_at_call_of 11 (more); refine (within_any _ _ _ (by omega) (by omega) (by omega) (by omega) _).mono ?_; rintro e wq ⟨rfl, hq⟩; have hq := hq.symm; subst hq; rw [(HN).out]) | (go_at_call 7; refine (atLeast_no (by omega) _).mono ?_; rintro e wq ⟨rfl, hq⟩; have hq := hq.symm; subst hq) | (go_at_call 8; refine (atMost_no (by omega) _).mono ?_; rintro e wq ⟨rfl, hq⟩; have hq := hq.symm; subst hq) | (go_at_call 3; refine (lateRuns_any _).mono ?_; rintro e w1 ⟨rfl, d1⟩)); go_ret; exact ⟨rfl, d1⟩)
theorem lateRatios_law (v0 v1 v2 v3 : Value) (w : World) (w0 : Arg w (.int .i64) v0) (w1 : Arg w (.int .i64) v1) (w2 : Arg w (.int .i64) v2) (w3 : Arg w (.int .i64) v3) :
    Calls Try.prog 5 #[v0, v1, v2, v3] w fun e w' => e = .returned (.bool true) ∧ Below w.heap.size w w' := by
  obtain ⟨n0, rfl, _⟩ := arg_int w0
  obtain ⟨n1, rfl, _⟩ := arg_int w1
  obtain ⟨n2, rfl, _⟩ := arg_int w2
  obtain ⟨n3, rfl, _⟩ := arg_int w3
  exact lateRatios_any n0 n1 n2 n3 w
end Go.Proofs.Ytbppaomenhdjeaa
