/-
  The walk of CentsParts.
-/
import Derived.Test.YtloginogbegebaaCentsRoundWalk
namespace Go.Proofs.Ytloginogbegebaa
open Go.RowKit

theorem less_mul (a b A B : Int) (b0 : 0 ≤ b) (A0 : 0 ≤ A) (ha : a ≤ A) (hb : b ≤ B) : a * b ≤ A * B := Int.mul_le_mul ha hb b0 A0

set_option maxRecDepth 100000 in
set_option maxHeartbeats 2000000 in
theorem centsParts_any (a b fac per k : Int) (_w0 : (Lit.int .i64 a).wf = true) (_w1 : (Lit.int .i64 b).wf = true) (_w2 : (Lit.int .i64 fac).wf = true) (_w3 : (Lit.int .i64 per).wf = true) (_w4 : (Lit.int .i64 k).wf = true) (w : World) :
    Calls Try.prog 7 #[.int .i64 a, .int .i64 b, .int .i64 fac, .int .i64 per, .int .i64 k] w fun e w' => e = .returned (.bool true) ∧ Below w.heap.size w w' := by
  obtain ⟨x, hx⟩ : ∃ x, a % 268435457 = x := ⟨_, rfl⟩
  obtain ⟨y, hy⟩ : ∃ x, b % 268435457 = x := ⟨_, rfl⟩
  obtain ⟨n, hn⟩ : ∃ x, fac % 268435457 = x := ⟨_, rfl⟩
  obtain ⟨d, hd⟩ : ∃ x, 1 + per % 268435456 = x := ⟨_, rfl⟩
  obtain ⟨m, hm⟩ : ∃ x, 1 + k % 1048576 = x := ⟨_, rfl⟩
  have x0 : 0 ≤ x := by omega
  have x1 : x ≤ 268435456 := by omega
  have y0 : 0 ≤ y := by omega
  have y1 : y ≤ 268435456 := by omega
  have n0 : 0 ≤ n := by omega
  have n1 : n ≤ 268435456 := by omega
  have d0 : 1 ≤ d := by omega
  have d1 : d ≤ 268435456 := by omega
  have m0 : 1 ≤ m := by omega
  have m1 : m ≤ 1048576 := by omega
  have hxn : x * n ≤ 268435456 * 268435456 := less_mul x n _ _ n0 (by omega) x1 n1
  have hyn : y * n ≤ 268435456 * 268435456 := less_mul y n _ _ n0 (by omega) y1 n1
  have hxm : x * m ≤ 268435456 * 1048576 := less_mul x m _ _ (by omega) (by omega) x1 m1
  have hxm0 : 0 ≤ x * m := Int.mul_nonneg x0 (by omega)
  have hxn0 : 0 ≤ x * n := Int.mul_nonneg x0 n0
  have hyn0 : 0 ≤ y * n := Int.mul_nonneg y0 n0
  have F1 : Hid (mdV x n d 0 = x * n / d) := (md_down x n d x0 (by omega) n0 (by omega) d0 (by omega) (by omega)).2
  have F2 : Hid (mdV y n d 0 = y * n / d) := (md_down y n d y0 (by omega) n0 (by omega) d0 (by omega) (by omega)).2
  have hs : (x + y) * n = x * n + y * n := Int.add_mul _ _ _
  have F3 : Hid (mdB (x + y) n d 0 = true ∧ mdV (x + y) n d 0 = (x * n + y * n) / d) := by
    have := md_down (x + y) n d (by omega) (by omega) n0 (by omega) d0 (by omega) (by omega)
    rw [hs] at this
    exact this
  have F4 : Hid (mdB (x * m) n m 2 = true ∧ mdV (x * m) n m 2 = x * n) := md_exact x n m x0 n0 (by omega) m0 (by omega) (by omega) (by omega)
  have F5 : Hid (mdB x n 0 0 = false) := md_nil x n 0
  have F6 : Hid (mdB x n d 3 = false) := md_how x n d
  have F7 : Hid (mdB 1152921504606846976 1152921504606846976 (1 + x % 1024) 0 = false) := md_top _ (by omega) (by omega)
  obtain ⟨p, hp⟩ : ∃ v, x * n / d = v := ⟨_, rfl⟩
  obtain ⟨q, hq⟩ : ∃ v, y * n / d = v := ⟨_, rfl⟩
  obtain ⟨r, hr⟩ : ∃ v, (x * n + y * n) / d = v := ⟨_, rfl⟩
  have p0 : 0 ≤ p := by rw [← hp]; exact Int.ediv_nonneg hxn0 (by omega)
  have q0 : 0 ≤ q := by rw [← hq]; exact Int.ediv_nonneg hyn0 (by omega)
  have p1 : p ≤ x * n := by rw [← hp]; exact Int.ediv_le_self _ hxn0
  have q1 : q ≤ y * n := by rw [← hq]; exact Int.ediv_le_self _ hyn0
  have FR : Hid (r = p + q ∨ r = p + q + 1) := by
    have := div_add (x * n) (y * n) d d0
    rw [hp, hq, hr] at this
    exact this
  rw [Hid, hp] at F1
  rw [Hid, hq] at F2
  rw [Hid, hr] at F3
  have HX : Hid (a % 268435457 = x ∧ b % 268435457 = y ∧ fac % 268435457 = n ∧ 1 + per % 268435456 = d ∧ 1 + k % 1048576 = m) := ⟨hx, hy, hn, hd, hm⟩
  have G1 : Hid (mdV x n d 0 = p) := F1
  have G2 : Hid (mdV y n d 0 = q) := F2
  have G3 : Hid (mdB (x + y) n d 0 = true ∧ mdV (x + y) n d 0 = r) := F3
  clear F1 F2 F3 hx hy hn hd hm hs hp hq hr
  go_enter Try.func7, Try.ntmps7
  go_upto_region 2 with (go_at_call 16; refine (within_any _ _ _ (by omega) (by omega) (by omega) (by omega) _).mono ?_; rintro e w' ⟨rfl, rfl⟩)
  rw [HX.out.1, HX.out.2.1, HX.out.2.2.1, HX.out.2.2.2.1]
  go_wp2_with fail
  refine (mulDiv_any _ _ _ _ _).mono ?_
  rintro e w1 ⟨rfl, k1⟩
  rw [G1.out]
  generalize mdB x n d 0 = t1
  go_wp2_with fail
  refine (mulDiv_any _ _ _ _ _).mono ?_
  rintro e w2 ⟨rfl, k2⟩
  rw [G2.out]
  generalize mdB y n d 0 = t2
  go_wp2_with fail
  refine (mulDiv_any _ _ _ _ _).mono ?_
  rintro e w3 ⟨rfl, k3⟩
  rw [G3.out.1, G3.out.2]
  go_upto_region 6 with (go_at_call 16; refine (within_any _ _ _ (by omega) (by omega) (by omega) (by omega) _).mono ?_; rintro e w3 ⟨rfl, rfl⟩)
  rw [HX.out.2.2.2.2]
  go_wp2_with fail
  refine (mulDiv_any _ _ _ _ _).mono ?_
  rintro e w4 ⟨rfl, k4⟩
  rw [F4.out.1, F4.out.2]
  go_wp2_with fail
  refine (mulDiv_any _ _ _ _ _).mono ?_
  rintro e w5 ⟨rfl, k5⟩
  rw [F5.out]
  generalize mdV x n 0 0 = t5
  go_wp2_with fail
  refine (mulDiv_any _ _ _ _ _).mono ?_
  rintro e w6 ⟨rfl, k6⟩
  rw [F6.out]
  generalize mdV x n d 3 = t6
  go_wp2_with fail
  rw [low_ten x (by omega) (by omega), IntWalk.wrap64_in (1 + x % 1024) (by omega)]
  refine (mulDiv_any _ _ _ _ _).mono ?_
  rintro e w7 ⟨rfl, k7⟩
  rw [F7.out]
  generalize mdV 1152921504606846976 1152921504606846976 (1 + x % 1024) 0 = t7
  have kk := below_then (below_then (below_then (below_then (below_then (below_then k1 k2) k3) k4) k5) k6) k7
  clear k1 k2 k3 k4 k5 k6 k7 hxm hxm0
  go_upto_region 10 with fail
  rcases FR.out with g | g
  · have g1 : (r == p + q) = true := beq_iff_eq.2 g
    clear g
    go_wp2_with (go_at_call 3; refine (centsRuns_any _).mono ?_; rintro e w8 ⟨rfl, k8⟩)
    go_ret
    exact ⟨rfl, below_then kk k8⟩
  · have g1 : (r == p + q) = false := beq_eq_false_iff_ne.2 (by omega)
    have g2 : (r == p + q + 1) = true := beq_iff_eq.2 g
    clear g
    go_wp2_with (go_at_call 3; refine (centsRuns_any _).mono ?_; rintro e w8 ⟨rfl, k8⟩)
    go_ret
    exact ⟨rfl, below_then kk k8⟩
end Go.Proofs.Ytloginogbegebaa
