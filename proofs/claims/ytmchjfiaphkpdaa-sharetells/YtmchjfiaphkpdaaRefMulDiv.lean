/-
  Package cascaderef1: the walk of MulDiv (long division, bit by bit) and of Sum.
-/
import Derived.Test.YtmchjfiaphkpdaaMdFacts
namespace Go.Proofs.Ytmchjfiaphkpdaa
open Go.RowKit

/-- One bit of a long division. -/
theorem bit_step (n per b bit : Int) (hp : 1 ≤ per) :
    (2 * (n * b / per) + bit * (n / per)) + (2 * (n * b % per) + bit * (n % per)) / per = n * (2 * b + bit) / per ∧
    (2 * (n * b % per) + bit * (n % per)) % per = n * (2 * b + bit) % per := by
  have e1 := Int.mul_ediv_add_emod (n * b) per
  have e2 := Int.mul_ediv_add_emod n per
  have e : n * (2 * b + bit) = (2 * (n * b % per) + bit * (n % per)) + per * (2 * (n * b / per) + bit * (n / per)) := by
    rw [Int.mul_add, Int.mul_add, Int.mul_left_comm n 2 b, Int.mul_comm n bit, Int.mul_left_comm per 2, Int.mul_left_comm per bit]
    conv => lhs; rw [← e1]; 
    conv => lhs; arg 2; rw [← e2]
    rw [Int.mul_add, Int.mul_add]
    omega
  rw [e, Int.add_mul_ediv_left _ _ (by omega), Int.add_mul_emod_self_left]
  exact ⟨by omega, rfl⟩

theorem half_bits (x : Int) (j : Nat) : x / 2 ^ j = 2 * (x / 2 ^ (j + 1)) + x / 2 ^ j % 2 := by
  have h : (0 : Int) ≤ 2 ^ j := Int.pow_nonneg (by omega)
  rw [Int.pow_succ, Int.ediv_mul, if_neg (by omega)]
  omega

set_option maxRecDepth 100000 in
set_option maxHeartbeats 2000000 in
theorem refMulDiv_no (n fac per how : Int) (w : World) (h : mdIn n fac per how = false) :
    Calls Try.prog 25 #[.int .i64 n, .int .i64 fac, .int .i64 per, .int .i64 how] w fun e w' => e = .returned (.tuple #[.int .i64 0, .bool false]) ∧ Below w.heap.size w w' := by
  have hno : n < 0 ∨ fac < 0 ∨ per < 1 ∨ how < 0 ∨ 2 < how ∨ 1152921504606846976 < n ∨ 1152921504606846976 < fac ∨ 1152921504606846976 < per := by
    simp only [mdIn, decide_eq_false_iff_not] at h
    omega
  clear h
  go_enter Try.func25, Try.ntmps25
  go_upto_region 1 with fail
  go_cut [43] (fun t wx => t = .bool true ∧ w = wx)
  case first =>
    go_wp2
    all_goals
      go_meet
      case rel =>
        refine ⟨congrArg Value.bool ?_, rfl⟩
        simp
        try omega
  case rest =>
    obtain ⟨rfl, rfl⟩ := hcut
    go_wp2
    go_ret2
    exact ⟨rfl, Below.refl _ _⟩

theorem quot_mono (n a b per : Int) (hn : 0 ≤ n) (hab : a ≤ b) (hp : 1 ≤ per) : n * a / per ≤ n * b / per :=
  Int.ediv_le_ediv (by omega) (Int.mul_le_mul_of_nonneg_left hab hn)

theorem pow_div_le (b : Int) (i : Nat) (h : 0 ≤ b) : b / 2 ^ i ≤ b := Int.ediv_le_self _ h

/-- What is known at the head of a round: the quotient and rest of the bits so far. -/
structure Sofar (n fac per : Int) (j : Nat) (Q R : Int) : Prop where
  q : Q = n * (fac / 2 ^ j) / per
  r : R = n * (fac / 2 ^ j) % per

theorem Sofar.next {n fac per : Int} {i : Nat} {Q R : Int} (h : Sofar n fac per (i + 1) Q R) (hp : 1 ≤ per) (bit : Int) (hb : fac / 2 ^ i % 2 = bit) :
    Sofar n fac per i (2 * Q + bit * (n / per) + (2 * R + bit * (n % per)) / per) ((2 * R + bit * (n % per)) % per) := by
  have e := half_bits fac i
  rw [hb] at e
  obtain ⟨e1, e2⟩ := bit_step n per (fac / 2 ^ (i + 1)) bit hp
  rw [← e] at e1 e2
  exact ⟨by rw [h.q, h.r]; exact e1, by rw [h.r]; exact e2⟩

theorem md_over (n fac per how : Int) (i : Nat) (Q R : Int) (hn : 0 ≤ n) (hb : 0 ≤ fac) (hp : 1 ≤ per) (h : Sofar n fac per i Q R) (hq : 1152921504606846976 < Q) : mdB n fac per how = false ∧ mdV n fac per how = 0 := by
  have h1 := quot_mono n (fac / 2 ^ i) fac per hn (pow_div_le fac i hb) hp
  rw [← h.q] at h1
  have : ¬ mdRaw n fac per how ≤ 1152921504606846976 := by
    unfold mdRaw
    split <;> omega
  have e : mdB n fac per how = false := by simp [mdB, this]
  exact ⟨e, by simp [mdV, e]⟩

set_option maxRecDepth 100000 in
set_option maxHeartbeats 2000000 in
theorem refMulDiv_in (n fac per how : Int) (w : World) (a1 : 0 ≤ n) (a2 : n ≤ 1152921504606846976) (b1 : 0 ≤ fac) (b2 : fac ≤ 1152921504606846976) (c1 : 1 ≤ per) (c2 : per ≤ 1152921504606846976) (d1 : 0 ≤ how) (d2 : how ≤ 2) :
    Calls Try.prog 25 #[.int .i64 n, .int .i64 fac, .int .i64 per, .int .i64 how] w fun e w' => e = .returned (.tuple #[.int .i64 (mdV n fac per how), .bool (mdB n fac per how)]) ∧ Below w.heap.size w w' := by
  have D0 : 0 ≤ n / per := Int.ediv_nonneg a1 (by omega)
  have D1 : n / per ≤ 1152921504606846976 := Int.le_trans (Int.ediv_le_self _ a1) a2
  have M0 : 0 ≤ n % per := Int.emod_nonneg _ (by omega)
  have M1 : n % per < per := Int.emod_lt_of_pos _ (by omega)
  go_enter Try.func25, Try.ntmps25
  go_wp2
  go_loopw [10, 11, 12] (fun q r i wr => ∃ (j : Nat) (Q R : Int), j ≤ 61 ∧ i = .int .i64 (j - 1) ∧ q = .int .i64 Q ∧ r = .int .i64 R ∧ 0 ≤ Q ∧ Q ≤ 1152921504606846976 ∧ 0 ≤ R ∧ R < per ∧ Sofar n fac per j Q R ∧ Below w.heap.size w wr) (fun _ _ i _ => (intOf i + 1).toNat)
  case atStart =>
    have e : fac / 2 ^ 61 = 0 := Int.ediv_eq_zero_of_lt b1 (by omega)
    exact ⟨61, 0, 0, by omega, rfl, rfl, rfl, by omega, by omega, by omega, by omega, ⟨by rw [e]; simp, by rw [e]; simp⟩, Below.refl _ _⟩
  case round =>
    obtain ⟨j, Q, R, hj, rfl, rfl, rfl, Q0, Q1, R0, R1, hs, hbel⟩ := hrel
    by_cases hj0 : 1 ≤ j
    · obtain ⟨i, rfl⟩ : ∃ i, j = i + 1 := ⟨j - 1, by omega⟩
      have hbit := low_bit (fac / 2 ^ i) (Int.ediv_nonneg b1 (Int.pow_nonneg (by omega))) (by have := pow_div_le fac i b1; omega)
      have HB : Hid (Below w.heap.size w wr) := hbel
      have HSo : Hid (Sofar n fac per (i + 1) Q R) := hs
      clear hbel hs
      rcases Int.emod_two_eq (fac / 2 ^ i) with hz | hz
      · have hnx := HSo.out.next c1 0 hz
        have b0 : (bits BinOp.and IntKind.i64 (fac / 2 ^ i) 1 == 1) = false := by rw [hbit, hz]; rfl
        clear hz hbit
        have E0 : 0 ≤ (2 * R) / per := Int.ediv_nonneg (by omega) (by omega)
        have E1 : (2 * R) / per ≤ 3 := by
          have : (2 * R) / per < 4 := (Int.ediv_lt_iff_lt_mul (by omega)).2 (by omega)
          omega
        have F0 : 0 ≤ (2 * R) % per := Int.emod_nonneg _ (by omega)
        have F1 : (2 * R) % per < per := Int.emod_lt_of_pos _ (by omega)
        simp only [Int.zero_mul, Int.add_zero] at hnx
        have HNX : Hid (Sofar n fac per i (2 * Q + (2 * R) / per) ((2 * R) % per)) := hnx
        clear hnx
        go_wp2
        go_quiet (fail)
        go_wp2
        · go_ret2
          obtain ⟨e1, e2⟩ := md_over n fac per how i _ _ a1 b1 c1 HNX.out (by assumption)
          exact ⟨by rw [e1, e2]; rfl, below_draws HB.out _⟩
        · go_roundw
          case rel => exact ⟨i, _, _, by omega, rfl, rfl, rfl, by omega, by assumption, F0, F1, HNX.out, below_draws HB.out _⟩
          case measure => simp [intOf]
      · have hnx := HSo.out.next c1 1 hz
        have b0 : (bits BinOp.and IntKind.i64 (fac / 2 ^ i) 1 == 1) = true := by rw [hbit, hz]; rfl
        clear hz hbit
        have E0 : 0 ≤ (2 * R + n % per) / per := Int.ediv_nonneg (by omega) (by omega)
        have E1 : (2 * R + n % per) / per ≤ 3 := by
          have : (2 * R + n % per) / per < 4 := (Int.ediv_lt_iff_lt_mul (by omega)).2 (by omega)
          omega
        have F0 : 0 ≤ (2 * R + n % per) % per := Int.emod_nonneg _ (by omega)
        have F1 : (2 * R + n % per) % per < per := Int.emod_lt_of_pos _ (by omega)
        simp only [Int.one_mul] at hnx
        have HNX : Hid (Sofar n fac per i (2 * Q + n / per + (2 * R + n % per) / per) ((2 * R + n % per) % per)) := hnx
        clear hnx
        go_wp2
        go_quiet (fail)
        go_wp2
        go_quiet (fail)
        go_wp2
        · go_ret2
          obtain ⟨e1, e2⟩ := md_over n fac per how i _ _ a1 b1 c1 HNX.out (by assumption)
          exact ⟨by rw [e1, e2]; rfl, below_draws HB.out _⟩
        · go_roundw
          case rel => exact ⟨i, _, _, by omega, rfl, rfl, rfl, by omega, by assumption, F0, F1, HNX.out, below_draws HB.out _⟩
          case measure => simp [intOf]
    · obtain rfl : j = 0 := by omega
      have eQ : Q = n * fac / per := by have := hs.q; rwa [Int.pow_zero, Int.ediv_one] at this
      have eR : R = n * fac % per := by have := hs.r; rwa [Int.pow_zero, Int.ediv_one] at this
      have HB : Hid (Below w.heap.size w wr) := hbel
      obtain ⟨u, hu⟩ : ∃ u, upB Q R per how = u := ⟨_, rfl⟩
      have hin : mdIn n fac per how = true := by simp only [mdIn, decide_eq_true_eq]; omega
      have HE : Hid (mdRaw n fac per how = Q + if u then 1 else 0) := by show _ = _; unfold mdRaw; rw [← eQ, ← eR, hu]
      have HI : Hid (mdIn n fac per how = true) := hin
      have HUP : Hid (upB Q R per how = u) := hu
      have hlow := low_bit Q Q0 (by omega)
      have HL : Hid (bits BinOp.and IntKind.i64 Q 1 = Q % 2) := hlow
      clear hbel hs eQ eR hu hin hlow D0 D1 M0 M1
      go_upto_region 14 with fail
      go_cut [104] (fun t wx => t = .bool u ∧ wr = wx)
      case first =>
        have hcase : how = 0 ∨ how = 1 ∨ how = 2 := by omega
        rcases hcase with rfl | rfl | rfl
        · have e := HUP.out
          rw [upB_down] at e
          subst e
          go_wp2
          go_meet
          case rel => exact ⟨rfl, rfl⟩
        · have e := HUP.out
          rw [upB_up] at e
          have HU2 : Hid (decide (0 < R) = u) := e
          clear e HUP HE
          rcases Int.lt_or_le 0 R with g | g
          all_goals
            go_wp2
            go_meet
            case rel =>
              refine ⟨congrArg Value.bool ?_, rfl⟩
              have h := HU2.out
              first
              | exact h
              | (rw [decide_eq_true (p := 0 < R) (by omega)] at h; exact h)
              | (rw [decide_eq_false (p := 0 < R) (by omega)] at h; exact h)
        · have e := HUP.out
          rw [upB_half] at e
          have HU2 : Hid ((decide (per < 2 * R) || (2 * R == per && Q % 2 == 1)) = u) := e
          clear e HUP HE
          rcases Int.lt_trichotomy (2 * R) per with g | g | g
          · have g1 : (R == per - R) = false := beq_eq_false_iff_ne.2 (by omega)
            go_wp2
            go_meet
            case rel =>
              refine ⟨congrArg Value.bool ?_, rfl⟩
              rw [← HU2.out, decide_eq_false (p := per < 2 * R) (by omega), beq_eq_false_iff_ne.2 (show 2 * R ≠ per by omega)]
              simp
              try omega
          · have g1 : (R == per - R) = true := beq_iff_eq.2 (by omega)
            have HG : Hid (2 * R = per) := g
            have g3 : R ≤ per - R := by omega
            have g4 : per - R ≤ R := by omega
            clear g
            go_wp2
            go_meet
            case rel =>
              refine ⟨congrArg Value.bool ?_, rfl⟩
              rw [← HU2.out, decide_eq_false (p := per < 2 * R) (by have := HG.out; omega), beq_iff_eq.2 HG.out, HL.out]
              simp
              try omega
          · go_wp2
            go_meet
            case rel =>
              refine ⟨congrArg Value.bool ?_, rfl⟩
              rw [← HU2.out, decide_eq_true (p := per < 2 * R) (by omega)]
              rfl
      case rest =>
        obtain ⟨rfl, rfl⟩ := hcut
        cases u
        · have hb : mdB n fac per how = true := by
            have := HE.out
            simp at this
            simp [mdB, HI.out, this]
            omega
          have hv : mdV n fac per how = Q := by
            have := HE.out
            simp at this
            simp [mdV, hb, this]
          have HBV : Hid (mdB n fac per how = true ∧ mdV n fac per how = Q) := ⟨hb, hv⟩
          clear hb hv
          go_wp2
          go_ret2
          exact ⟨by rw [HBV.out.1, HBV.out.2]; rfl, HB.out⟩
        · by_cases hq : Q + 1 ≤ 1152921504606846976
          · have hb : mdB n fac per how = true := by
              have := HE.out
              simp at this
              simp [mdB, HI.out, this]
              omega
            have hv : mdV n fac per how = Q + 1 := by
              have := HE.out
              simp at this
              simp [mdV, hb, this]
            have HBV : Hid (mdB n fac per how = true ∧ mdV n fac per how = Q + 1) := ⟨hb, hv⟩
            clear hb hv
            go_wp2
            go_ret2
            exact ⟨by rw [HBV.out.1, HBV.out.2]; rfl, HB.out⟩
          · have hb : mdB n fac per how = false := by
              have := HE.out
              simp at this
              simp [mdB, HI.out, this]
              omega
            have hv : mdV n fac per how = 0 := by simp [mdV, hb]
            have HBV : Hid (mdB n fac per how = false ∧ mdV n fac per how = 0) := ⟨hb, hv⟩
            clear hb hv
            go_wp2
            go_ret2
            exact ⟨by rw [HBV.out.1, HBV.out.2]; rfl, HB.out⟩

/-- The document's own MulDiv tells what MulDiv is said to tell. -/
theorem refMulDiv_any (n fac per how : Int) (w : World) :
    Calls Try.prog 25 #[.int .i64 n, .int .i64 fac, .int .i64 per, .int .i64 how] w fun e w' => e = .returned (.tuple #[.int .i64 (mdV n fac per how), .bool (mdB n fac per how)]) ∧ Below w.heap.size w w' := by
  by_cases hin : mdIn n fac per how = true
  · have h := hin
    simp only [mdIn, decide_eq_true_eq] at h
    obtain ⟨a1, a2, b1, b2, c1, c2, d1, d2⟩ := h
    exact refMulDiv_in n fac per how w a1 a2 b1 b2 c1 c2 d1 d2
  · have hin' : mdIn n fac per how = false := by simpa using hin
    refine (refMulDiv_no n fac per how w hin').mono ?_
    rintro e w' ⟨rfl, hb⟩
    have e1 : mdB n fac per how = false := by simp [mdB, hin']
    rw [show mdV n fac per how = 0 by simp [mdV, e1], e1]
    exact ⟨rfl, hb⟩

set_option maxHeartbeats 1000000 in
theorem refSum_at (b off len cap : Nat) (zs : List Int) (w : World) (hl : zs.length = len) (hm : len ≤ maxLen)
    (hc : ∀ i, i < len → w.cell? ⟨b, off + i, none⟩ = some (.int .i64 (zs.getD i 0))) :
    Calls Try.prog 24 #[.slice (some ⟨b, off, none⟩) len cap] w fun e w' => e = .returned (.tuple #[.int .i64 ((sumFrom zs 0).getD 0), .bool (sumFrom zs 0).isSome]) ∧ w' = w := by
  unfold maxLen at hm
  generalize hS : sumFrom zs 0 = S
  have HS : Hid (sumFrom zs 0 = S) := hS
  clear hS
  go_enter Try.func24, Try.ntmps24
  go_wp2
  go_loop [4, 9] (fun t i => ∃ (k : Nat) (s : Int), k ≤ len ∧ i = .int .i64 k ∧ t = .int .i64 s ∧ 0 ≤ s ∧ s ≤ 1152921504606846976 ∧ sumFrom (zs.drop k) s = S) (fun _ i => len - (intOf i).toNat)
  case atStart => exact ⟨0, 0, Nat.zero_le _, rfl, rfl, by omega, by omega, HS.out⟩
  case round =>
    obtain ⟨k, s, hk, rfl, rfl, s0, s1, hr⟩ := hrel
    by_cases hlt : k < len
    · have hcell := hc k hlt
      rw [sumFrom_at zs k (by omega)] at hr
      generalize zs.getD k 0 = x at hcell hr
      have HA : Hid ((if x < 0 ∨ 1152921504606846976 - s < x then none else sumFrom (zs.drop (k + 1)) (s + x)) = S) := hr
      clear hr hc HS
      by_cases h0 : 0 ≤ x
      · by_cases h1 : x ≤ 1152921504606846976 - s
        · go_wp2
          go_round
          case rel => exact ⟨k + 1, s + x, by omega, by go_num, rfl, by omega, by omega, by rw [← HA.out, if_neg (by omega)]⟩
          case measure => simp [intOf]; omega
        · go_wp2
          go_ret2
          have e : S = none := by rw [← HA.out, if_pos (by omega)]
          exact ⟨by rw [e]; rfl, rfl⟩
      · go_wp2
        go_ret2
        have e : S = none := by rw [← HA.out, if_pos (by omega)]
        exact ⟨by rw [e]; rfl, rfl⟩
    · have e : S = some s := by
        rw [← hr, List.drop_eq_nil_of_le (by omega)]; rfl
      have HE : Hid (S = some s) := e
      clear hr hc HS e
      go_wp2
      go_ret2
      exact ⟨by rw [HE.out]; rfl, rfl⟩

set_option maxHeartbeats 1000000 in
theorem refSum_none (a : Option Addr) (cap : Nat) (w : World) :
    Calls Try.prog 24 #[.slice a 0 cap] w fun e w' => e = .returned (.tuple #[.int .i64 0, .bool true]) ∧ w' = w := by
  go_enter Try.func24, Try.ntmps24
  go_wp2
  go_loop [4, 9] (fun t i => t = .int .i64 0 ∧ i = .int .i64 0) (fun _ _ => 0)
  case atStart => exact ⟨rfl, rfl⟩
  case round =>
    obtain ⟨rfl, rfl⟩ := hrel
    go_wp2
    go_ret2
    exact ⟨rfl, rfl⟩

theorem refSum_any (v : Value) (zs : List Int) (w : World) (h : Reads w v zs) :
    Calls Try.prog 24 #[v] w fun e w' => e = .returned (.tuple #[.int .i64 ((sumFrom zs 0).getD 0), .bool (sumFrom zs 0).isSome]) ∧ w' = w := by
  obtain ⟨a, cap, rfl, _, hm, rfl | ⟨b, off, rfl, hc⟩⟩ := h
  · exact refSum_none a cap w
  · exact refSum_at b off _ cap zs w rfl hm hc
end Go.Proofs.Ytmchjfiaphkpdaa
