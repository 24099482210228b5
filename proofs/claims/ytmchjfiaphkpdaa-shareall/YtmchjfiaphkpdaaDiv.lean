/-
  The walk of math/bits.Div64.
-/
import Derived.Test.YtmchjfiaphkpdaaBits
import Derived.Deep.DeepCutAuto
import Derived.Deep.LoopGhost
import Derived.Deep.CutBlock
import Derived.BigQuiet
namespace Go.Proofs.Ytmchjfiaphkpdaa
open Go.RowKit

theorem ret_two {j k : IntKind} {a b c d : Int} (h1 : a = b) (h2 : c = d) : Ending.returned (.tuple #[.int j a, .int k c]) = .returned (.tuple #[.int j b, .int k d]) := by rw [h1, h2]

set_option maxHeartbeats 1000000 in
theorem div64_one (h l y : Int) (h0 : h = 0) (l0 : 0 ≤ l) (l1 : l ≤ 18446744073709551615) (y0 : 1 ≤ y) (y1 : y ≤ 18446744073709551615) (w : World) :
    Calls Try.prog 29 #[.int .u64 h, .int .u64 l, .int .u64 y] w fun e w' => e = .returned (.tuple #[.int .u64 (l / y), .int .u64 (l % y)]) ∧ ∃ n, w' = w.drewN n := by
  subst h0
  have e0 : (y == 0) = false := beq_eq_false_iff_ne.2 (by omega)
  go_enter Try.func29, Try.ntmps29
  go_wp2
  go_quiet (fail)
  go_wp2
  go_ret2
  exact ⟨rfl, _, rfl⟩

set_option maxHeartbeats 2000000 in
theorem div64_two (h l y : Int) (h0 : 1 ≤ h) (hy : h < y) (l0 : 0 ≤ l) (l1 : l ≤ 18446744073709551615) (y1 : y ≤ 18446744073709551615) (w : World) :
    Calls Try.prog 29 #[.int .u64 h, .int .u64 l, .int .u64 y] w fun e w' => e = .returned (.tuple #[.int .u64 ((h * 18446744073709551616 + l) / y), .int .u64 ((h * 18446744073709551616 + l) % y)]) ∧ ∃ n, w' = w.drewN n := by
  have e0 : (y == 0) = false := beq_eq_false_iff_ne.2 (by omega)
  have e1 : (h == 0) = false := beq_eq_false_iff_ne.2 (by omega)
  have hb : Lib.bitLen y.toNat ≤ 64 := Lib.bitLen_le _ 64 (by omega) (by omega)
  generalize hs : (64 - (Lib.bitLen y.toNat : Int)) = s
  have s0 : 0 ≤ s := by omega
  have s1 : s ≤ 64 := by omega
  have Hs : Hid ((64 - (Lib.bitLen y.toNat : Int)) = s) := hs
  clear hs
  go_enter Try.func29, Try.ntmps29
  go_upto_region 9 with (go_at_call 33; refine (lz64_any y (by omega) y1 _).mono ?_; rintro e w' ⟨rfl, rfl⟩; rw [Hs.out])
  obtain ⟨Y, U, L, eY, eU, eL, Y1, Y2, U1, U2, L1, L2, mY, mL, rq, rr⟩ := words h l y s (by omega) hy l0 l1 y1 Hs.out
  rw [eY]
  have HU : Hid (bits .or .u64 (IntKind.u64.wrap (h * 2 ^ s.toNat)) (l / 2 ^ (64 - s).toNat) = U) := eU
  have HL : Hid (IntKind.u64.wrap (l * 2 ^ s.toNat) = L) := eL
  have HmY : Hid (bits .and .u64 Y 4294967295 = Y % 4294967296) := mY
  have HmL : Hid (bits .and .u64 L 4294967295 = L % 4294967296) := mL
  have Hq : Hid ((U * 18446744073709551616 + L) / Y = (h * 18446744073709551616 + l) / y) := rq
  have Hr : Hid ((U * 18446744073709551616 + L) % Y / 2 ^ s.toNat = (h * 18446744073709551616 + l) % y) := rr
  clear eY eU eL mY mL rq rr
  go_upto_region 15 with fail
  rw [HU.out, HL.out, HmY.out, HmL.out]
  obtain ⟨V1, hV1⟩ : ∃ v, Y / 4294967296 = v := ⟨_, rfl⟩
  obtain ⟨V0, hV0⟩ : ∃ v, Y % 4294967296 = v := ⟨_, rfl⟩
  obtain ⟨N1, hN1⟩ : ∃ v, L / 4294967296 = v := ⟨_, rfl⟩
  obtain ⟨N0, hN0⟩ : ∃ v, L % 4294967296 = v := ⟨_, rfl⟩
  rw [hV1, hV0, hN1, hN0]
  have v1 : 2147483648 ≤ V1 := by omega
  have v2 : V1 < 4294967296 := by omega
  have v3 : 0 ≤ V0 := by omega
  have v4 : V0 < 4294967296 := by omega
  have n1 : 0 ≤ N1 := by omega
  have n2 : N1 < 4294967296 := by omega
  have n3 : 0 ≤ N0 := by omega
  have n4 : N0 < 4294967296 := by omega
  have HV : Hid (V1 * 4294967296 + V0 = Y) := by show V1 * 4294967296 + V0 = Y; omega
  have HN : Hid (N1 * 4294967296 + N0 = L) := by show N1 * 4294967296 + N0 = L; omega
  clear hV1 hV0 hN1 hN0 HU HL HmY HmL
  go_upto_block 0 with fail
  go_cut [15, 16] (fun a b wx => a = .int .u64 ((U * 4294967296 + N1) / Y) ∧ (∃ r, b = .int .u64 r) ∧ w' = wx)
  case first =>
    go_wp2_with fail
    go_loop [15, 16] (fun a b => ∃ q r : Int, a = .int .u64 q ∧ b = .int .u64 r ∧ r ≤ 4294967295 ∧ Guess U N1 V1 V0 q r) (fun a _ => (intOf a).toNat)
    case atStart =>
      refine ⟨_, _, rfl, rfl, ?_, ?_⟩
      · rw [first_rest U V1 (by omega) (by omega) (by omega)]
        have := Int.emod_lt_of_pos U (b := V1) (by omega)
        omega
      · rw [first_rest U V1 (by omega) (by omega) (by omega)]
        exact Guess.first (by omega) (by omega) v1 v3 v4 (by rw [HV.out]; exact U2) (by omega)
    case round =>
      obtain ⟨q, r, rfl, rfl, hr, g⟩ := hrel
      have g1 := g.most
      have g2 := g.rest
      have g3 := g.least
      have HG : Hid (Guess U N1 V1 V0 q r) := g
      clear g
      by_cases ha : 4294967296 ≤ q ∨ 4294967296 * r + N1 < q * V0
      · obtain ⟨k1, k2⟩ := HG.out.next (by omega) v1 v3 (by rw [HV.out]; exact U2) (by omega) ha
        have HK : Hid (Guess U N1 V1 V0 (q - 1) (r + V1)) := k2
        clear k2
        by_cases hc : 4294967296 ≤ q
        · clear ha
          go_wp2
          · go_meet
            case rel =>
              have := HK.out.broken (by omega) (by omega) v3 v4 (by omega) (by omega)
              rw [HV.out] at this
              exact ⟨congrArg (Value.int .u64) this, ⟨_, rfl⟩, rfl⟩
          · go_round
            case rel => exact ⟨_, _, rfl, rfl, by omega, HK.out⟩
            case measure => simp [intOf]; omega
        · have hd : 4294967296 * r + N1 < q * V0 := by omega
          clear ha
          have hp : q * V0 ≤ 4294967295 * 4294967295 := Int.mul_le_mul (by omega) (by omega) v3 (by omega)
          go_wp2
          · go_meet
            case rel =>
              have := HK.out.broken (by omega) (by omega) v3 v4 (by omega) (by omega)
              rw [HV.out] at this
              exact ⟨congrArg (Value.int .u64) this, ⟨_, rfl⟩, rfl⟩
          · go_round
            case rel => exact ⟨_, _, rfl, rfl, by omega, HK.out⟩
            case measure => simp [intOf]; omega
      · have hc : ¬ 4294967296 ≤ q := by omega
        have hd : q * V0 ≤ 4294967296 * r + N1 := by omega
        clear ha
        have hn : 0 ≤ q * V0 := Int.mul_nonneg g3 v3
        go_wp2
        go_meet
        case rel =>
          have := HG.out.tested (by omega) hd
          rw [HV.out] at this
          exact ⟨congrArg (Value.int .u64) this, ⟨_, rfl⟩, rfl⟩
  case rest =>
  obtain ⟨rfl, ⟨r0, rfl⟩, rfl⟩ := hcut
  go_upto_region 22 with fail
  rw [left_wrap U N1 Y (by omega) (by omega)]
  obtain ⟨R, hR⟩ : ∃ v, (U * 4294967296 + N1) % Y = v := ⟨_, rfl⟩
  obtain ⟨Q1, hQ1⟩ : ∃ v, (U * 4294967296 + N1) / Y = v := ⟨_, rfl⟩
  rw [hR, hQ1]
  have R1 : 0 ≤ R := by rw [← hR]; exact Int.emod_nonneg _ (by omega)
  have R2 : R < Y := by rw [← hR]; exact Int.emod_lt_of_pos _ (by omega)
  have q1 : 0 ≤ Q1 := by rw [← hQ1]; exact Int.ediv_nonneg (by omega) (by omega)
  have q2 : Q1 ≤ 4294967295 := by
    have := Guess.top (u := U) (d := N1) (y1 := V1) (y0 := V0) (by omega) (by rw [HV.out]; exact U2) n2
    rw [HV.out, hQ1] at this
    exact this
  have HR : Hid ((U * 4294967296 + N1) % Y = R) := hR
  have HQ : Hid ((U * 4294967296 + N1) / Y = Q1) := hQ1
  clear hR hQ1
  go_upto_block 2 with fail
  go_cut [18, 16] (fun a b wx => a = .int .u64 ((R * 4294967296 + N0) / Y) ∧ (∃ r, b = .int .u64 r) ∧ w' = wx)
  case first =>
    go_wp2_with fail
    go_loop [18, 16] (fun a b => ∃ q r : Int, a = .int .u64 q ∧ b = .int .u64 r ∧ r ≤ 4294967295 ∧ Guess R N0 V1 V0 q r) (fun a _ => (intOf a).toNat)
    case atStart =>
      refine ⟨_, _, rfl, rfl, ?_, ?_⟩
      · rw [first_rest R V1 (by omega) (by omega) (by omega)]
        have := Int.emod_lt_of_pos R (b := V1) (by omega)
        omega
      · rw [first_rest R V1 (by omega) (by omega) (by omega)]
        exact Guess.first (by omega) (by omega) v1 v3 v4 (by rw [HV.out]; exact R2) (by omega)
    case round =>
      obtain ⟨q, r, rfl, rfl, hr, g⟩ := hrel
      have g1 := g.most
      have g2 := g.rest
      have g3 := g.least
      have HG : Hid (Guess R N0 V1 V0 q r) := g
      clear g
      by_cases ha : 4294967296 ≤ q ∨ 4294967296 * r + N0 < q * V0
      · obtain ⟨k1, k2⟩ := HG.out.next (by omega) v1 v3 (by rw [HV.out]; exact R2) (by omega) ha
        have HK : Hid (Guess R N0 V1 V0 (q - 1) (r + V1)) := k2
        clear k2
        by_cases hc : 4294967296 ≤ q
        · clear ha
          go_wp2
          · go_meet
            case rel =>
              have := HK.out.broken (by omega) (by omega) v3 v4 (by omega) (by omega)
              rw [HV.out] at this
              exact ⟨congrArg (Value.int .u64) this, ⟨_, rfl⟩, rfl⟩
          · go_round
            case rel => exact ⟨_, _, rfl, rfl, by omega, HK.out⟩
            case measure => simp [intOf]; omega
        · have hd : 4294967296 * r + N0 < q * V0 := by omega
          clear ha
          have hp : q * V0 ≤ 4294967295 * 4294967295 := Int.mul_le_mul (by omega) (by omega) v3 (by omega)
          go_wp2
          · go_meet
            case rel =>
              have := HK.out.broken (by omega) (by omega) v3 v4 (by omega) (by omega)
              rw [HV.out] at this
              exact ⟨congrArg (Value.int .u64) this, ⟨_, rfl⟩, rfl⟩
          · go_round
            case rel => exact ⟨_, _, rfl, rfl, by omega, HK.out⟩
            case measure => simp [intOf]; omega
      · have hc : ¬ 4294967296 ≤ q := by omega
        have hd : q * V0 ≤ 4294967296 * r + N0 := by omega
        clear ha
        have hn : 0 ≤ q * V0 := Int.mul_nonneg g3 v3
        go_wp2
        go_meet
        case rel =>
          have := HG.out.tested (by omega) hd
          rw [HV.out] at this
          exact ⟨congrArg (Value.int .u64) this, ⟨_, rfl⟩, rfl⟩
  case rest =>
  obtain ⟨rfl, ⟨r2, rfl⟩, rfl⟩ := hcut
  obtain ⟨Q0, hQ0⟩ : ∃ v, (R * 4294967296 + N0) / Y = v := ⟨_, rfl⟩
  have q3 : 0 ≤ Q0 := by rw [← hQ0]; exact Int.ediv_nonneg (by omega) (by omega)
  have q4 : Q0 ≤ 4294967295 := by
    have := Guess.top (u := R) (d := N0) (y1 := V1) (y0 := V0) (by omega) (by rw [HV.out]; exact R2) n4
    rw [HV.out, hQ0] at this
    exact this
  rw [hQ0]
  have HQ0 : Hid ((R * 4294967296 + N0) / Y = Q0) := hQ0
  clear hQ0
  go_wp2
  go_ret2
  have d1 := two_digits U N1 N0 Y (by omega)
  have d2 := left_wrap R N0 Y (by omega) (by omega)
  rw [HQ0.out] at d2
  rw [HR.out, HQ.out, HQ0.out, HN.out, Hq.out] at d1
  refine ⟨ret_two (a := Q1 * 4294967296 + Q0) (c := IntKind.u64.wrap (IntKind.u64.wrap (IntKind.u64.wrap (R * 4294967296) + N0) - IntKind.u64.wrap (Q0 * Y)) / 2 ^ s.toNat) d1.1 ?_, 0, rfl⟩
  rw [d2, d1.2, Hr.out]

/-- Div64: quotient and rest of two words by one, where the quotient fits a word. -/
theorem div64_any (h l y : Int) (h0 : 0 ≤ h) (hy : h < y) (l0 : 0 ≤ l) (l1 : l ≤ 18446744073709551615) (y1 : y ≤ 18446744073709551615) (w : World) :
    Calls Try.prog 29 #[.int .u64 h, .int .u64 l, .int .u64 y] w fun e w' => e = .returned (.tuple #[.int .u64 ((h * 18446744073709551616 + l) / y), .int .u64 ((h * 18446744073709551616 + l) % y)]) ∧ ∃ n, w' = w.drewN n := by
  rcases Int.lt_or_le 0 h with g | g
  · exact div64_two h l y (by omega) hy l0 l1 y1 w
  · have e : h = 0 := by omega
    refine (div64_one h l y e l0 l1 (by omega) y1 w).mono ?_
    rintro r w' ⟨rfl, hw⟩
    refine ⟨ret_two ?_ ?_, hw⟩
    · rw [e]; simp
    · rw [e]; simp

end Go.Proofs.Ytmchjfiaphkpdaa
