/-
  Package sheet: sums in two words: what plus and number tell; bounded.
-/
import Derived.Test.YtolbgemaildbkaaBase
import Derived.Laws.Externs
namespace Go.Proofs.Ytolbgemaildbkaa
open Go.RowKit

/-- The two words of a sum. -/
def hiW (S : Int) : Int := S / 18446744073709551616 % 18446744073709551616
def loW (S : Int) : Int := S % 18446744073709551616
/-- The word above n. -/
def upW (n : Int) : Int := if n < 0 then 18446744073709551615 else 0
def wideC (S : Int) : List Value := [.int .u64 (hiW S), .int .u64 (loW S)]
theorem hiW_in (S : Int) : 0 ≤ hiW S ∧ hiW S ≤ 18446744073709551615 := by unfold hiW; omega
theorem loW_in (S : Int) : 0 ≤ loW S ∧ loW S ≤ 18446744073709551615 := by unfold loW; omega
theorem upW_in (n : Int) : 0 ≤ upW n ∧ upW n ≤ 18446744073709551615 := by unfold upW; split <;> omega
theorem loW_plus (S n : Int) : (loW S + n % 18446744073709551616 + 0) % 18446744073709551616 = loW (S + n) := by unfold loW; omega
theorem hiW_plus (S n : Int) (h0 : -9223372036854775808 ≤ n) (h1 : n ≤ 9223372036854775807) :
    (hiW S + upW n + (loW S + n % 18446744073709551616 + 0) / 18446744073709551616) % 18446744073709551616 = hiW (S + n) := by
  unfold hiW loW upW
  split <;> omega
theorem carry_in (S n : Int) : 0 ≤ (loW S + n % 18446744073709551616 + 0) / 18446744073709551616 ∧ (loW S + n % 18446744073709551616 + 0) / 18446744073709551616 ≤ 1 := by
  unfold loW; omega

theorem add64_run (x y c : Int) (hx : 0 ≤ x) (hy : 0 ≤ y) (hc0 : 0 ≤ c) (hc : c ≤ 1) (w : World) :
    (callFunc 26 #[.int .u64 x, .int .u64 y, .int .u64 c]).run Try.prog w =
      .ok (.value (.tuple #[.int .u64 ((x + y + c) % 18446744073709551616), .int .u64 ((x + y + c) / 18446744073709551616)])) w := by
  rw [run_callFunc_extern Try.func26 (by kernel_rfl) (by kernel_rfl) (by kernel_rfl) (e := add64Entry) (by kernel_rfl), run_add64 x y c hx hy hc0 hc]
  rfl

theorem upW_wrap (n : Int) (h0 : -9223372036854775808 ≤ n) (h1 : n ≤ 9223372036854775807) : IntKind.u64.wrap (n / 9223372036854775808) = upW n := by
  rw [IntKind.wrap_u64]; unfold upW; split <;> omega
theorem u64_of (n : Int) : IntKind.u64.wrap n = n % 18446744073709551616 := IntKind.wrap_u64 n
theorem wrap_u (n : Int) (h0 : 0 ≤ n) (h1 : n ≤ 18446744073709551615) : IntKind.u64.wrap n = n := by rw [IntKind.wrap_u64]; omega

theorem upperWord_any (n : Int) (h0 : -9223372036854775808 ≤ n) (h1 : n ≤ 9223372036854775807) (w : World) :
    Calls Try.prog 27 #[.int .i64 n] w fun e w' => e = .returned (.int .u64 (upW n)) ∧ w' = w := by
  have hu := upW_wrap n h0 h1
  go_enter Try.func27, Try.ntmps27
  go_wp2
  go_ret
  exact ⟨rfl, rfl⟩

/-- May it be an amount, or a balance? -/
def amtOk (n : Int) : Bool := decide (-1152921504606846976 ≤ n) && decide (n ≤ 1152921504606846976)
theorem amtOk_iff (n : Int) : amtOk n = true ↔ -1152921504606846976 ≤ n ∧ n ≤ 1152921504606846976 := by simp [amtOk]

theorem bounded_any (n : Int) (w : World) : Calls Try.prog 24 #[.int .i64 n] w fun e w' => e = .returned (.bool (amtOk n)) ∧ w' = w := by
  obtain ⟨b, hb⟩ : ∃ b, amtOk n = b := ⟨_, rfl⟩
  rw [hb]
  have HB : Hid (amtOk n = b) := hb
  clear hb
  by_cases h0 : -1152921504606846976 ≤ n
  · by_cases h1 : n ≤ 1152921504606846976
    · go_enter Try.func24, Try.ntmps24
      go_wp2
      go_ret
      exact ⟨ret_bool (by rw [← HB.out]; exact ((amtOk_iff n).2 ⟨h0, h1⟩).symm), rfl⟩
    · go_enter Try.func24, Try.ntmps24
      go_wp2
      go_ret
      exact ⟨ret_bool (by rw [← HB.out]; simp [amtOk]; omega), rfl⟩
  · go_enter Try.func24, Try.ntmps24
    go_wp2
    go_ret
    exact ⟨ret_bool (by rw [← HB.out]; simp [amtOk]; omega), rfl⟩

set_option maxHeartbeats 1000000 in
theorem plus_any (S n : Int) (h0 : -9223372036854775808 ≤ n) (h1 : n ≤ 9223372036854775807) (w : World) :
    Calls Try.prog 21 #[.agg #[.int .u64 (hiW S), .int .u64 (loW S)], .int .i64 n] w fun e w' => e = .returned (.agg #[.int .u64 (hiW (S + n)), .int .u64 (loW (S + n))]) ∧ Below w.heap.size w w' := by
  have eh := hiW_plus S n h0 h1
  have el := loW_plus S n
  have i1 := hiW_in S
  have i2 := loW_in S
  have i3 := upW_in n
  have i4 := carry_in S n
  have hn : 0 ≤ n % 18446744073709551616 := by omega
  have en : IntKind.u64.wrap n = n % 18446744073709551616 := u64_of n
  generalize hiW (S + n) = H at *
  generalize loW (S + n) = L at *
  generalize hiW S = hi at *
  generalize loW S = lo at *
  generalize n % 18446744073709551616 = m at *
  generalize hc : (lo + m + 0) / 18446744073709551616 = c at *
  have A1 : ∀ wx, (callFunc 26 #[.int .u64 lo, .int .u64 m, .int .u64 0]).run Try.prog wx = .ok (.value (.tuple #[.int .u64 L, .int .u64 c])) wx := fun wx => by
    rw [add64_run lo m 0 (by omega) hn (by omega) (by omega), el, hc]
  obtain ⟨z, A2⟩ : ∃ z, ∀ wx, (callFunc 26 #[.int .u64 hi, .int .u64 (upW n), .int .u64 c]).run Try.prog wx = .ok (.value (.tuple #[.int .u64 H, .int .u64 z])) wx := ⟨_, fun wx => by
    rw [add64_run hi (upW n) c (by omega) (by omega) (by omega) (by omega), eh]⟩
  clear eh el hc
  go_enter Try.func21, Try.ntmps21
  go_upto_region 2 with fail
  go_quiet ((go_at_call 27; exact Calls.quiet_of_same (upperWord_any n h0 h1 _)))
  go_wp2
  refine bodyPost_ret (v := .agg #[.int .u64 H, .int .u64 L]) ?_ rfl ⟨rfl, ?_⟩
  · simp [results, go_sem]
  · exact ((below_draws (below_alloc (below_alloc (Below.refl _ _) _) _) _).setCell (by simp) _).setCell (by simp) _

theorem number_in (S : Int) (h0 : -9223372036854775808 ≤ S) (h1 : S ≤ 9223372036854775807) : IntKind.i64.wrap (loW S) = S ∧ hiW S = upW S := by
  constructor
  · rw [IntKind.wrap_i64]; unfold loW; omega
  · unfold hiW upW; split <;> omega
theorem number_out (S : Int) (l : -170141183460469231731687303715884105728 ≤ S) (u : S ≤ 170141183460469231731687303715884105727) (h : S < -9223372036854775808 ∨ 9223372036854775807 < S) :
    ∃ n, IntKind.i64.wrap (loW S) = n ∧ -9223372036854775808 ≤ n ∧ n ≤ 9223372036854775807 ∧ hiW S ≠ upW n := by
  refine ⟨_, rfl, ?_, ?_, ?_⟩
  · rw [IntKind.wrap_i64]; unfold loW; omega
  · rw [IntKind.wrap_i64]; unfold loW; omega
  · rw [IntKind.wrap_i64]; unfold hiW loW upW; split <;> omega

/-- Is it an int? -/
def isInt (S : Int) : Bool := decide (-9223372036854775808 ≤ S) && decide (S ≤ 9223372036854775807)
theorem isInt_iff (S : Int) : isInt S = true ↔ -9223372036854775808 ≤ S ∧ S ≤ 9223372036854775807 := by simp [isInt]

set_option maxHeartbeats 1000000 in
theorem number_yes (S : Int) (h0 : -9223372036854775808 ≤ S) (h1 : S ≤ 9223372036854775807) (w : World) :
    Calls Try.prog 23 #[.agg #[.int .u64 (hiW S), .int .u64 (loW S)]] w fun e w' => e = .returned (.tuple #[.int .i64 S, .bool true]) ∧ Below w.heap.size w w' := by
  obtain ⟨e1, e2⟩ := number_in S h0 h1
  generalize loW S = lo at *
  generalize hiW S = hi at *
  subst e2
  go_enter Try.func23, Try.ntmps23
  go_upto_region 2 with fail
  go_quiet ((go_at_call 27; exact Calls.quiet_of_same (upperWord_any S h0 h1 _)))
  go_wp2
  go_ret2
  exact ⟨rfl, below_draws (below_alloc (Below.refl _ _) _) _⟩
set_option maxHeartbeats 1000000 in
theorem number_no (S : Int) (l : -170141183460469231731687303715884105728 ≤ S) (u : S ≤ 170141183460469231731687303715884105727) (h : S < -9223372036854775808 ∨ 9223372036854775807 < S) (w : World) :
    Calls Try.prog 23 #[.agg #[.int .u64 (hiW S), .int .u64 (loW S)]] w fun e w' => e = .returned (.tuple #[.int .i64 0, .bool false]) ∧ Below w.heap.size w w' := by
  obtain ⟨n, e1, n0, n1, e2⟩ := number_out S l u h
  clear l u h
  generalize loW S = lo at *
  generalize hiW S = hi at *
  generalize hup : upW n = up at *
  have e3 : (hi == up) = false := by simpa using e2
  clear e2
  go_enter Try.func23, Try.ntmps23
  go_upto_region 2 with fail
  go_quiet ((go_at_call 27; exact Calls.quiet_of_same (upperWord_any n n0 n1 _)))
  go_wp2
  go_ret2
  exact ⟨rfl, below_draws (below_alloc (Below.refl _ _) _) _⟩
/-- What number tells. -/
def numV (S : Int) : Int := if isInt S then S else 0
theorem number_any (S : Int) (l : -170141183460469231731687303715884105728 ≤ S) (u : S ≤ 170141183460469231731687303715884105727) (w : World) :
    Calls Try.prog 23 #[.agg #[.int .u64 (hiW S), .int .u64 (loW S)]] w fun e w' => e = .returned (.tuple #[.int .i64 (numV S), .bool (isInt S)]) ∧ Below w.heap.size w w' := by
  by_cases h : -9223372036854775808 ≤ S ∧ S ≤ 9223372036854775807
  · have hb : isInt S = true := (isInt_iff S).2 h
    rw [numV, hb, if_pos rfl]
    exact number_yes S h.1 h.2 w
  · have hb : isInt S = false := by simp only [isInt, Bool.and_eq_false_iff, decide_eq_false_iff_not]; omega
    rw [numV, hb, if_neg (by simp)]
    exact number_no S l u (by omega) w
end Go.Proofs.Ytolbgemaildbkaa
