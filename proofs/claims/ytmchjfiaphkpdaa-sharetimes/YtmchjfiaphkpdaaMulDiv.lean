/-
  Package cents: the walk of MulDiv.
-/
import Derived.Test.YtmchjfiaphkpdaaCents
namespace Go.Proofs.Ytmchjfiaphkpdaa
open Go.RowKit

/-- May it be asked? -/
def mdIn (n fac per how : Int) : Bool := decide (0 ≤ n ∧ n ≤ 1152921504606846976 ∧ 0 ≤ fac ∧ fac ≤ 1152921504606846976 ∧ 1 ≤ per ∧ per ≤ 1152921504606846976 ∧ 0 ≤ how ∧ how ≤ 2)
/-- The product by per, brought to a whole number. -/
def mdRaw (n fac per how : Int) : Int := n * fac / per + if upB (n * fac / per) (n * fac % per) per how then 1 else 0
/-- Is there an answer? -/
def mdB (n fac per how : Int) : Bool := mdIn n fac per how && decide (mdRaw n fac per how ≤ 1152921504606846976)
/-- The answer; 0 without one. -/
def mdV (n fac per how : Int) : Int := if mdB n fac per how then mdRaw n fac per how else 0

theorem mul64_int (x y : Int) (x0 : 0 ≤ x) (x1 : x ≤ 18446744073709551615) (y0 : 0 ≤ y) (y1 : y ≤ 18446744073709551615) (w : World) :
    Calls Try.prog 28 #[.int .u64 x, .int .u64 y] w fun e w' => e = .returned (.tuple #[.int .u64 (x * y / 18446744073709551616), .int .u64 (x * y % 18446744073709551616)]) ∧ w' = w := by
  obtain ⟨x, rfl⟩ := Int.eq_ofNat_of_zero_le x0
  obtain ⟨y, rfl⟩ := Int.eq_ofNat_of_zero_le y0
  refine (mul64_any x y (by omega) (by omega) w).mono ?_
  rintro e w' ⟨rfl, hw⟩
  refine ⟨ret_two ?_ ?_, hw⟩ <;> simp

theorem reads_three (w : World) (a b c : Int) : Reads (w.alloc (.cells #[.int .i64 a, .int .i64 b, .int .i64 c] 3)) (.slice (some ⟨w.heap.size, 0, none⟩) 3 3) [a, b, c] := by
  refine ⟨_, 3, rfl, by simp, by simp [maxLen], Or.inr ⟨w.heap.size, 0, rfl, ?_⟩⟩
  intro i hi
  match i, hi with
  | 0, _ => simp
  | 1, _ => simp
  | 2, _ => simp

theorem right_three (a b c : Int) (w : World) :
    Calls Try.prog 27 #[.slice (some ⟨w.heap.size, 0, none⟩) 3 3] (w.alloc (.cells #[.int .i64 a, .int .i64 b, .int .i64 c] 3)) fun e w' => e = .returned (.bool (rightL [a, b, c])) ∧ w' = (w.alloc (.cells #[.int .i64 a, .int .i64 b, .int .i64 c] 3)) :=
  right_any _ _ _ (reads_three w a b c)

/-- No answer: the arguments may not be asked. -/
theorem mulDiv_no (n fac per how : Int) (w : World) (h : mdIn n fac per how = false) :
    Calls Try.prog 20 #[.int .i64 n, .int .i64 fac, .int .i64 per, .int .i64 how] w fun e w' => e = .returned (.tuple #[.int .i64 0, .bool false]) ∧ Below w.heap.size w w' := by
  have hbel : Below w.heap.size w (w.alloc (.cells #[.int .i64 n, .int .i64 fac, .int .i64 per] 3)) := (Below.refl _ _).alloc (Nat.le_refl _) _
  by_cases hr : rightL [n, fac, per] = true
  · by_cases hp : per = 0
    · have bp : (per == 0) = true := beq_iff_eq.2 hp
      clear hp h
      go_enter Try.func20, Try.ntmps20
      go_wp2_with (go_at_call 27; refine (right_three n fac per _).mono ?_; rintro e w' ⟨rfl, rfl⟩; rw [hr])
      go_ret2
      exact ⟨rfl, hbel⟩
    · have bp : (per == 0) = false := beq_eq_false_iff_ne.2 hp
      by_cases h0 : how < 0
      · clear hp h
        go_enter Try.func20, Try.ntmps20
        go_wp2_with (go_at_call 27; refine (right_three n fac per _).mono ?_; rintro e w' ⟨rfl, rfl⟩; rw [hr])
        go_ret2
        exact ⟨rfl, hbel⟩
      · have h2 : 2 < how := by
          simp [rightL] at hr
          simp [mdIn] at h
          omega
        clear hp h
        go_enter Try.func20, Try.ntmps20
        go_wp2_with (go_at_call 27; refine (right_three n fac per _).mono ?_; rintro e w' ⟨rfl, rfl⟩; rw [hr])
        go_ret2
        exact ⟨rfl, hbel⟩
  · have hr' : rightL [n, fac, per] = false := by simpa using hr
    clear hr h
    go_enter Try.func20, Try.ntmps20
    go_wp2_with (go_at_call 27; refine (right_three n fac per _).mono ?_; rintro e w' ⟨rfl, rfl⟩; rw [hr'])
    go_ret2
    exact ⟨rfl, hbel⟩


set_option maxHeartbeats 1000000 in
/-- The product is beyond a word times per. -/
theorem mulDiv_far (n fac per how P : Int) (w : World) (a1 : 0 ≤ n) (a2 : n ≤ 1152921504606846976) (b1 : 0 ≤ fac) (b2 : fac ≤ 1152921504606846976) (c1 : 1 ≤ per) (c2 : per ≤ 1152921504606846976) (d1 : 0 ≤ how) (d2 : how ≤ 2)
    (HP : Hid (n * fac = P)) (hf : per ≤ P / 18446744073709551616) :
    Calls Try.prog 20 #[.int .i64 n, .int .i64 fac, .int .i64 per, .int .i64 how] w fun e w' => e = .returned (.tuple #[.int .i64 0, .bool false]) ∧ Below w.heap.size w w' := by
  have hbel : Below w.heap.size w (w.alloc (.cells #[.int .i64 n, .int .i64 fac, .int .i64 per] 3)) := (Below.refl _ _).alloc (Nat.le_refl _) _
  have hr : rightL [n, fac, per] = true := by simp [rightL]; omega
  have bp : (per == 0) = false := beq_eq_false_iff_ne.2 (by omega)
  go_enter Try.func20, Try.ntmps20
  go_wp2_with (first
    | (go_at_call 27; refine (right_three n fac per _).mono ?_; rintro e w' ⟨rfl, rfl⟩; rw [hr])
    | (go_at_call 28; refine (mul64_int n fac (by omega) (by omega) (by omega) (by omega) _).mono ?_; rintro e w' ⟨rfl, rfl⟩; rw [HP.out]))
  go_ret2
  exact ⟨rfl, hbel⟩

set_option maxHeartbeats 1000000 in
/-- The product is within a word times per. -/
theorem mulDiv_near (n fac per how P : Int) (w : World) (a1 : 0 ≤ n) (a2 : n ≤ 1152921504606846976) (b1 : 0 ≤ fac) (b2 : fac ≤ 1152921504606846976) (c1 : 1 ≤ per) (c2 : per ≤ 1152921504606846976) (d1 : 0 ≤ how) (d2 : how ≤ 2)
    (HP : Hid (n * fac = P)) (hf : P / 18446744073709551616 < per) (p1 : 0 ≤ P) (u : Bool) (HU : Hid (upB (P / per) (P % per) per how = u)) :
    Calls Try.prog 20 #[.int .i64 n, .int .i64 fac, .int .i64 per, .int .i64 how] w fun e w' =>
      e = (if P / per + (if u then 1 else 0) ≤ 1152921504606846976 then .returned (.tuple #[.int .i64 (P / per + (if u then 1 else 0)), .bool true]) else .returned (.tuple #[.int .i64 0, .bool false])) ∧ Below w.heap.size w w' := by
  have hbel : Below w.heap.size w (w.alloc (.cells #[.int .i64 n, .int .i64 fac, .int .i64 per] 3)) := (Below.refl _ _).alloc (Nat.le_refl _) _
  have hr : rightL [n, fac, per] = true := by simp [rightL]; omega
  have bp : (per == 0) = false := beq_eq_false_iff_ne.2 (by omega)
  have q0 : 0 ≤ P / per := Int.ediv_nonneg p1 (by omega)
  have r0 : 0 ≤ P % per := Int.emod_nonneg _ (by omega)
  have r1 : P % per < per := Int.emod_lt_of_pos _ (by omega)
  have HW : Hid (P / 18446744073709551616 * 18446744073709551616 + P % 18446744073709551616 = P) := by show _ = _; omega
  by_cases hq : P / per ≤ 1152921504606846976
  · cases u
    · rw [if_pos (by simpa using hq)]
      go_enter Try.func20, Try.ntmps20
      go_wp2_with (first
    | (go_at_call 27; refine (right_three n fac per _).mono ?_; rintro e w' ⟨rfl, rfl⟩; rw [hr])
    | (go_at_call 28; refine (mul64_int n fac (by omega) (by omega) (by omega) (by omega) _).mono ?_; rintro e w' ⟨rfl, rfl⟩; rw [HP.out])
    | (go_at_call 29; refine (div64_any (P / 18446744073709551616) (P % 18446744073709551616) per (by omega) (by omega) (by omega) (by omega) (by omega) _).mono ?_; rintro e w' ⟨rfl, nq, rfl⟩; rw [HW.out])
    | (go_at_call 30; refine (goesUp_any (P / per) (P % per) per how q0 r0 (by omega) _).mono ?_; rintro e w' ⟨rfl, rfl⟩; rw [HU.out]))
      go_ret2
      exact ⟨by simp, below_draws hbel _⟩
    · by_cases hq' : P / per + 1 ≤ 1152921504606846976
      · rw [if_pos (by simpa using hq')]
        go_enter Try.func20, Try.ntmps20
        go_wp2_with (first
    | (go_at_call 27; refine (right_three n fac per _).mono ?_; rintro e w' ⟨rfl, rfl⟩; rw [hr])
    | (go_at_call 28; refine (mul64_int n fac (by omega) (by omega) (by omega) (by omega) _).mono ?_; rintro e w' ⟨rfl, rfl⟩; rw [HP.out])
    | (go_at_call 29; refine (div64_any (P / 18446744073709551616) (P % 18446744073709551616) per (by omega) (by omega) (by omega) (by omega) (by omega) _).mono ?_; rintro e w' ⟨rfl, nq, rfl⟩; rw [HW.out])
    | (go_at_call 30; refine (goesUp_any (P / per) (P % per) per how q0 r0 (by omega) _).mono ?_; rintro e w' ⟨rfl, rfl⟩; rw [HU.out]))
        go_ret2
        exact ⟨by simp, below_draws hbel _⟩
      · rw [if_neg (by simpa using hq')]
        go_enter Try.func20, Try.ntmps20
        go_wp2_with (first
    | (go_at_call 27; refine (right_three n fac per _).mono ?_; rintro e w' ⟨rfl, rfl⟩; rw [hr])
    | (go_at_call 28; refine (mul64_int n fac (by omega) (by omega) (by omega) (by omega) _).mono ?_; rintro e w' ⟨rfl, rfl⟩; rw [HP.out])
    | (go_at_call 29; refine (div64_any (P / 18446744073709551616) (P % 18446744073709551616) per (by omega) (by omega) (by omega) (by omega) (by omega) _).mono ?_; rintro e w' ⟨rfl, nq, rfl⟩; rw [HW.out])
    | (go_at_call 30; refine (goesUp_any (P / per) (P % per) per how q0 r0 (by omega) _).mono ?_; rintro e w' ⟨rfl, rfl⟩; rw [HU.out]))
        go_ret2
        exact ⟨by simp, below_draws hbel _⟩
  · rw [if_neg (by cases u <;> simp <;> omega)]
    go_enter Try.func20, Try.ntmps20
    go_wp2_with (first
    | (go_at_call 27; refine (right_three n fac per _).mono ?_; rintro e w' ⟨rfl, rfl⟩; rw [hr])
    | (go_at_call 28; refine (mul64_int n fac (by omega) (by omega) (by omega) (by omega) _).mono ?_; rintro e w' ⟨rfl, rfl⟩; rw [HP.out])
    | (go_at_call 29; refine (div64_any (P / 18446744073709551616) (P % 18446744073709551616) per (by omega) (by omega) (by omega) (by omega) (by omega) _).mono ?_; rintro e w' ⟨rfl, nq, rfl⟩; rw [HW.out]))
    go_ret2
    exact ⟨by simp, below_draws hbel _⟩

/-- MulDiv: for any numbers. -/
theorem mulDiv_any (n fac per how : Int) (w : World) :
    Calls Try.prog 20 #[.int .i64 n, .int .i64 fac, .int .i64 per, .int .i64 how] w fun e w' => e = .returned (.tuple #[.int .i64 (mdV n fac per how), .bool (mdB n fac per how)]) ∧ Below w.heap.size w w' := by
  by_cases hin : mdIn n fac per how = true
  · have h := hin
    simp only [mdIn, decide_eq_true_eq] at h
    obtain ⟨a1, a2, b1, b2, c1, c2, d1, d2⟩ := h
    have p1 : 0 ≤ n * fac := Int.mul_nonneg a1 b1
    by_cases hf : n * fac / 18446744073709551616 < per
    · refine (mulDiv_near n fac per how (n * fac) w a1 a2 b1 b2 c1 c2 d1 d2 rfl hf p1 _ rfl).mono ?_
      rintro e w' ⟨rfl, hb⟩
      refine ⟨?_, hb⟩
      by_cases ht : mdRaw n fac per how ≤ 1152921504606846976
      · have e1 : mdB n fac per how = true := by simp [mdB, hin, ht]
        rw [show mdV n fac per how = mdRaw n fac per how by simp [mdV, e1], e1]
        exact if_pos ht
      · have e1 : mdB n fac per how = false := by simp [mdB, ht]
        rw [show mdV n fac per how = 0 by simp [mdV, e1], e1]
        exact if_neg ht
    · refine (mulDiv_far n fac per how (n * fac) w a1 a2 b1 b2 c1 c2 d1 d2 rfl (by omega)).mono ?_
      rintro e w' ⟨rfl, hb⟩
      have hd : 18446744073709551616 ≤ n * fac / per := by
        refine (Int.le_ediv_iff_mul_le (by omega)).2 ?_
        have := Int.mul_ediv_add_emod (n * fac) 18446744073709551616
        omega
      have ht : ¬ mdRaw n fac per how ≤ 1152921504606846976 := by
        unfold mdRaw
        split <;> omega
      have e1 : mdB n fac per how = false := by simp [mdB, ht]
      rw [show mdV n fac per how = 0 by simp [mdV, e1], e1]
      exact ⟨rfl, hb⟩
  · have hin' : mdIn n fac per how = false := by simpa using hin
    refine (mulDiv_no n fac per how w hin').mono ?_
    rintro e w' ⟨rfl, hb⟩
    have e1 : mdB n fac per how = false := by simp [mdB, hin']
    rw [show mdV n fac per how = 0 by simp [mdV, e1], e1]
    exact ⟨rfl, hb⟩

theorem reads_one (w : World) (a : Int) : Reads (w.alloc (.cells #[.int .i64 a] 3)) (.slice (some ⟨w.heap.size, 0, none⟩) 1 1) [a] := by
  refine ⟨_, 1, rfl, by simp, by simp [maxLen], Or.inr ⟨w.heap.size, 0, rfl, ?_⟩⟩
  intro i hi
  match i, hi with
  | 0, _ => simp

theorem reads_two (w : World) (a b : Int) : Reads (w.alloc (.cells #[.int .i64 a, .int .i64 b] 3)) (.slice (some ⟨w.heap.size, 0, none⟩) 2 2) [a, b] := by
  refine ⟨_, 2, rfl, by simp, by simp [maxLen], Or.inr ⟨w.heap.size, 0, rfl, ?_⟩⟩
  intro i hi
  match i, hi with
  | 0, _ => simp
  | 1, _ => simp


end Go.Proofs.Ytmchjfiaphkpdaa
