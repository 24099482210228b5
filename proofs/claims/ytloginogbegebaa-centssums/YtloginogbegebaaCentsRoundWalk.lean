/-
  The walk of CentsRound.
-/
import Derived.Test.YtloginogbegebaaCentsRunsWalk
import Derived.Test.YtloginogbegebaaMdFacts
import Derived.Test.YtloginogbegebaaBook
namespace Go.Proofs.Ytloginogbegebaa
open Go.RowKit

theorem small_mul (a b : Int) (a1 : a ≤ 1073741824) (b0 : 0 ≤ b) (b1 : b ≤ 1073741824) : a * b ≤ 1152921504606846976 :=
  Int.mul_le_mul (d := 1073741824) a1 b1 b0 (by omega)

theorem wraps_i64 (n : Int) (h₀ : 0 ≤ n) (h₁ : n < 2 ^ 63) : IntKind.i64.wrap n = n := by rw [IntKind.wrap_i64]; omega
/-- The lowest bit of a number from 0 on. -/
theorem low_bit (n : Int) (h0 : 0 ≤ n) (h1 : n < 9223372036854775808) : bits .and .i64 n 1 = n % 2 := bits_mask .i64 63 (by decide) wraps_i64 1 (by decide) n h0 h1
theorem low_ten (n : Int) (h0 : 0 ≤ n) (h1 : n < 9223372036854775808) : bits .and .i64 n 1023 = n % 1024 := bits_mask .i64 63 (by decide) wraps_i64 10 (by decide) n h0 h1

theorem below_then {a b c : World} (h : Below a.heap.size a b) (k : Below b.heap.size b c) : Below a.heap.size a c := h.trans (k.mono h.size)

set_option maxRecDepth 100000 in
set_option maxHeartbeats 2000000 in
theorem centsRound_any (n fac per : Int) (_w0 : (Lit.int .i64 n).wf = true) (_w1 : (Lit.int .i64 fac).wf = true) (_w2 : (Lit.int .i64 per).wf = true) (w : World) :
    Calls Try.prog 5 #[.int .i64 n, .int .i64 fac, .int .i64 per] w fun e w' => e = .returned (.bool true) ∧ Below w.heap.size w w' := by
  go_enter Try.func5, Try.ntmps5
  go_upto_region 2 with (go_at_call 16; refine (within_any _ _ _ (by omega) (by omega) (by omega) (by omega) _).mono ?_; rintro e w' ⟨rfl, rfl⟩)
  obtain ⟨a, ha⟩ : ∃ a, n % 1073741825 = a := ⟨_, rfl⟩
  obtain ⟨b, hb⟩ : ∃ b, fac % 1073741825 = b := ⟨_, rfl⟩
  obtain ⟨d, hd⟩ : ∃ d, 1 + per % 1073741824 = d := ⟨_, rfl⟩
  rw [ha, hb, hd]
  have a0 : 0 ≤ a := by omega
  have a1 : a ≤ 1073741824 := by omega
  have b0 : 0 ≤ b := by omega
  have b1 : b ≤ 1073741824 := by omega
  have d0 : 1 ≤ d := by omega
  have d1 : d ≤ 1073741824 := by omega
  clear ha hb hd
  obtain ⟨x, y, z, P, R, hP, hR, hx, P0, P1, R0, R1, x0, x1, e0, e2, e1, v0, v2, v1, e3, v3, hz, hy⟩ := md_three a b d a0 (by omega) b0 (by omega) d0 (by omega) (small_mul a b a1 b0 b1)
  have HP : Hid (a * b = P) := hP
  have HR : Hid (P % d = R) := hR
  have HX : Hid (x * d = P - R) := hx
  have HZ : Hid (z = x + (if 0 < R then 1 else 0)) := hz
  have HY : Hid (y = x + (if d < 2 * R ∨ (2 * R = d ∧ x % 2 = 1) then 1 else 0)) := hy
  have HE0 : Hid (mdB a b d 0 = true ∧ mdV a b d 0 = x) := ⟨e0, v0⟩
  have HE1 : Hid (mdB a b d 1 = true ∧ mdV a b d 1 = z) := ⟨e1, v1⟩
  have HE2 : Hid (mdB a b d 2 = true ∧ mdV a b d 2 = y) := ⟨e2, v2⟩
  have HE3 : Hid (mdB b a d 2 = true ∧ mdV b a d 2 = y) := ⟨e3, v3⟩
  have xz : x ≤ z := by rw [hz]; split <;> omega
  have zx : z ≤ x + 1 := by rw [hz]; split <;> omega
  have xy : x ≤ y := by rw [hy]; split <;> omega
  have yz : y ≤ z := by
    rw [hy, hz]
    split
    · rw [if_pos (by omega)]; omega
    · split <;> omega
  clear hP hR hx hz hy e0 e1 e2 e3 v0 v1 v2 v3
  go_upto_region 3 with fail
  refine (mulDiv_any _ _ _ _ _).mono ?_
  rintro e w1 ⟨rfl, k1⟩
  rw [HE0.out.1, HE0.out.2]
  go_wp2_with fail
  refine (mulDiv_any _ _ _ _ _).mono ?_
  rintro e w2 ⟨rfl, k2⟩
  rw [HE2.out.1, HE2.out.2]
  go_wp2_with fail
  refine (mulDiv_any _ _ _ _ _).mono ?_
  rintro e w3 ⟨rfl, k3⟩
  rw [HE1.out.1, HE1.out.2]
  have k123 : Below w'.heap.size w' w3 := below_then (below_then k1 k2) k3
  clear k1 k2 k3
  have hab := HP.out
  have hxd := HX.out
  obtain ⟨Z, hZ⟩ : ∃ Z, z * d = Z := ⟨_, rfl⟩
  have Z0 : P ≤ Z := by
    rw [← hZ, HZ.out]
    split
    · rw [Int.add_mul, hxd]; omega
    · rw [Int.add_mul, hxd]; omega
  have Z1 : Z ≤ P + d := by
    rw [← hZ, HZ.out]
    split
    · rw [Int.add_mul, hxd]; omega
    · rw [Int.add_mul, hxd]; omega
  have hmod := HR.out
  obtain ⟨X, hX⟩ : ∃ X, x * d = X := ⟨_, rfl⟩
  rw [hX] at hxd
  have X1 : X + R ≤ P := by omega
  have X2 : P ≤ X + R := by omega
  clear hxd
  go_upto_region 5 with fail
  go_cut [101] (fun t wx => t = .bool false ∧ w3 = wx)
  case first =>
    rcases Int.lt_or_le 0 R with g | g
    · have hc : (R == 0) = false := beq_eq_false_iff_ne.2 (by omega)
      have hxz : (x == z) = false := beq_eq_false_iff_ne.2 (by rw [HZ.out, if_pos g]; omega)
      go_wp2
      go_meet
      case rel => exact ⟨congrArg Value.bool (by simp; omega), rfl⟩
    · have hc : (R == 0) = true := beq_iff_eq.2 (by omega)
      have hxz : (x == z) = true := beq_iff_eq.2 (by rw [HZ.out, if_neg (by omega)]; omega)
      go_wp2
      go_meet
      case rel => exact ⟨congrArg Value.bool (by simp; omega), rfl⟩
  case rest =>
  obtain ⟨rfl, rfl⟩ := hcut
  clear hmod Z0 Z1 hZ
  go_upto_region 8 with fail
  go_cut [139] (fun t wx => t = .bool false ∧ w3 = wx)
  case first =>
    rcases Int.lt_trichotomy (2 * R) d with g | g | g
    · have hyx : (y != x) = false := by
        have : y = x := by rw [HY.out, if_neg (by omega)]; omega
        simp [this]
      go_wp2
      go_meet
      case rel => exact ⟨rfl, rfl⟩
    · have he : y % 2 = 0 := by
        rw [HY.out]
        split <;> omega
      have HE : Hid (y % 2 = 0) := he
      clear he
      go_wp2
      go_meet
      case rel => exact ⟨congrArg Value.bool (by rw [low_bit y (by omega) (by omega), HE.out]; rfl), rfl⟩
    · have hyz : (y != z) = false := by
        have : y = z := by rw [HY.out, HZ.out, if_pos (by omega), if_pos (by omega)]
        simp [this]
      go_wp2
      go_meet
      case rel => exact ⟨rfl, rfl⟩
  case rest =>
  obtain ⟨rfl, rfl⟩ := hcut
  have hyy : (y == y) = true := by simp
  go_wp2_with (first
    | (go_at_call 8; refine (mulDiv_any _ _ _ _ _).mono ?_; rintro e w4 ⟨rfl, k4⟩; rw [HE3.out.1, HE3.out.2])
    | (go_at_call 3; refine (centsRuns_any _).mono ?_; rintro e w5 ⟨rfl, k5⟩))
  go_ret
  exact ⟨rfl, below_then (below_then k123 k4) k5⟩
end Go.Proofs.Ytloginogbegebaa
