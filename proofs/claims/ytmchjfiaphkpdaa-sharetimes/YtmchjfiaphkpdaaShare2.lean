/-
  Package share: the walk of Left, in two words.
-/
import Derived.Test.YtmchjfiaphkpdaaShareP
import Derived.Test.YtmchjfiaphkpdaaMem
import Derived.Shelf.Spec.BitsCarry
namespace Go.Proofs.Ytmchjfiaphkpdaa
open Go.RowKit

/-- math/bits.Sub64, over numbers. -/
theorem sub64 (x y b : Int) (hx : 0 ≤ x) (hy : 0 ≤ y) (hy' : y < 18446744073709551616) (hb0 : 0 ≤ b) (hb : b ≤ 1) (w : World) : (callFunc 22 #[.int .u64 x, .int .u64 y, .int .u64 b]).run Try.prog w =
    .ok (.value (.tuple #[.int .u64 ((x - y - b) % 18446744073709551616), .int .u64 (if x < y + b then 1 else 0)])) w := by
  obtain ⟨x, rfl⟩ := Int.eq_ofNat_of_zero_le hx
  obtain ⟨y, rfl⟩ := Int.eq_ofNat_of_zero_le hy
  obtain ⟨b, rfl⟩ := Int.eq_ofNat_of_zero_le hb0
  have e1 : (((x + 18446744073709551616 - y - b) % 18446744073709551616 : Nat) : Int) = ((x : Int) - y - b) % 18446744073709551616 := by omega
  have e2 : ((if x < y + b then 1 else 0 : Nat) : Int) = if (x : Int) < y + b then 1 else 0 := by split <;> split <;> omega
  rw [← e1, ← e2, run_callFunc_extern Try.func22 (by kernel_rfl) (by kernel_rfl) (by kernel_rfl) (e := sub64Entry) (by kernel_rfl), run_sub64 x y b (by omega)]
  rfl

theorem sub64_0 (x y B : Int) (hx : 0 ≤ x) (hy : 0 ≤ y) (hy' : y < 18446744073709551616) (hB : Hid ((if x < y then 1 else 0) = B)) (w : World) : (callFunc 22 #[.int .u64 x, .int .u64 y, .int .u64 0]).run Try.prog w =
    .ok (.value (.tuple #[.int .u64 ((x - y) % 18446744073709551616), .int .u64 B])) w := by
  rw [← hB.out]
  simpa using sub64 x y 0 hx hy hy' (Int.le_refl 0) (by decide) w

theorem sub64_1 (x y b B : Int) (hx : 0 ≤ x) (hy : 0 ≤ y) (hy' : y < 18446744073709551616) (hb0 : 0 ≤ b) (hb : b ≤ 1) (hB : Hid ((if x < y + b then 1 else 0) = B)) (w : World) : (callFunc 22 #[.int .u64 x, .int .u64 y, .int .u64 b]).run Try.prog w =
    .ok (.value (.tuple #[.int .u64 ((x - y - b) % 18446744073709551616), .int .u64 B])) w := by
  rw [← hB.out]
  exact sub64 x y b hx hy hy' hb0 hb w

/-- The upper word of a number. -/
def upper (p : Int) : Int := if p < 0 then 18446744073709551615 else 0

theorem upperWord_any (p : Int) (w : World) : Calls Try.prog 23 #[.int .i64 p] w fun e w' => e = .returned (.int .u64 (upper p)) ∧ w' = w := by
  unfold upper
  by_cases h : p < 0
  · rw [if_pos h]
    go_enter Try.func23, Try.ntmps23
    go_wp2
    go_ret
    exact ⟨rfl, rfl⟩
  · rw [if_neg h]
    go_enter Try.func23, Try.ntmps23
    go_wp2
    go_ret
    exact ⟨rfl, rfl⟩

/-- One number taken off a number in two words. -/
theorem two_words (T p b : Int) (p0 : -9223372036854775808 ≤ p) (p1 : p ≤ 9223372036854775807) (hb : (if T % 18446744073709551616 < p % 18446744073709551616 then 1 else 0) = b) :
    (T % 18446744073709551616 - p % 18446744073709551616) % 18446744073709551616 = (T - p) % 18446744073709551616 ∧
    (T / 18446744073709551616 % 18446744073709551616 - upper p - b) % 18446744073709551616 = (T - p) / 18446744073709551616 % 18446744073709551616 := by
  refine ⟨by omega, ?_⟩
  obtain ⟨B, hB⟩ : ∃ B, p / 18446744073709551616 = B := ⟨_, rfl⟩
  have e : (T - p) / 18446744073709551616 = T / 18446744073709551616 - B - b := by
    split at hb <;> omega
  rw [e]
  unfold upper
  split
  · have : B = -1 := by omega
    omega
  · have : B = 0 := by omega
    omega

theorem sum_bound : ∀ (l : List Int), (∀ x ∈ l, -9223372036854775808 ≤ x ∧ x ≤ 9223372036854775807) → -(9223372036854775808 * l.length) ≤ l.sum ∧ l.sum ≤ 9223372036854775808 * l.length
  | [], _ => by simp
  | a :: r, h => by
    have h1 := h a (by simp)
    have h2 := sum_bound r (fun x hx => h x (by simp [hx]))
    simp only [List.sum_cons, List.length_cons]
    omega

/-- What the two words tell. -/
theorem two_words_end (T : Int) (t0 : -9223372036854775808000000 ≤ T) (t1 : T ≤ 9223372036854775809000000000) :
    (T / 18446744073709551616 % 18446744073709551616 = 0 ∧ T % 18446744073709551616 ≤ 9223372036854775807 ∧ 0 ≤ T ∧ T ≤ 9223372036854775807 ∧ T % 18446744073709551616 = T) ∨
    (T / 18446744073709551616 % 18446744073709551616 = 0 ∧ 9223372036854775807 < T % 18446744073709551616 ∧ ¬ (0 ≤ T ∧ T ≤ 9223372036854775807)) ∨
    (T / 18446744073709551616 % 18446744073709551616 ≠ 0 ∧ ¬ (0 ≤ T ∧ T ≤ 9223372036854775807)) := by
  omega

set_option maxHeartbeats 1000000 in
theorem left_any (n : Int) (v : Value) (zs : List Int) (w : World) (h : Reads w v zs) (hb : zs.length ≤ 1000000) (hn : n ≤ 9223372036854775807) (hr : ∀ x ∈ zs, -9223372036854775808 ≤ x ∧ x ≤ 9223372036854775807) :
    Calls Try.prog 12 #[.int .i64 n, v] w fun e w' => e = .returned (.int .i64 (leftL n zs)) ∧ w' = w := by
  obtain ⟨a, cap, rfl, hcap, hm, hz⟩ := id h
  obtain ⟨l, hl⟩ : ∃ l, zs.length = l := ⟨_, rfl⟩
  obtain ⟨N, hN⟩ : ∃ N, max n 0 = N := ⟨_, rfl⟩
  have N0 : 0 ≤ N := by omega
  have N1 : N ≤ 9223372036854775807 := by omega
  obtain ⟨R, hR⟩ : ∃ R, leftL n zs = R := ⟨_, rfl⟩
  have HR : Hid (R = if 0 ≤ N - zs.sum ∧ N - zs.sum ≤ 9223372036854775807 then N - zs.sum else 0) := by show _ = _; rw [← hR, leftL, hN]
  have HB : Hid (-9223372036854775808000000 ≤ N - zs.sum ∧ N - zs.sum ≤ 9223372036854775809000000000) := by
    have := sum_bound zs hr
    show _ ∧ _
    omega
  have HX : Hid (∀ k, k < l → (zs.take (k + 1)).sum = (zs.take k).sum + zs.getD k 0 ∧ -9223372036854775808 ≤ zs.getD k 0 ∧ zs.getD k 0 ≤ 9223372036854775807) := fun k hk => by
    have hk' : k < zs.length := by omega
    refine ⟨by rw [take_next zs k hk', List.sum_append]; simp, ?_⟩
    have := hr (zs.getD k 0) (by simp [List.getD_eq_getElem?_getD, hk'])
    exact this
  have HF : Hid (zs.take l = zs) := List.take_of_length_le (by omega)
  have hc : ∀ k, k < l → ∃ b off, a = some ⟨b, off, none⟩ ∧ w.cell? ⟨b, off + k, none⟩ = some (.int .i64 (zs.getD k 0)) := fun k hk => by
    rcases hz with rfl | ⟨b, off, rfl, hc⟩
    · simp at hl; omega
    · exact ⟨b, off, rfl, hc k (by omega)⟩
  have HC : Hid (∀ k, k < l → ∃ b off, a = some ⟨b, off, none⟩ ∧ w.cell? ⟨b, off + k, none⟩ = some (.int .i64 (zs.getD k 0))) := hc
  have HMax : Hid (max n 0 = N) := hN
  rw [hl] at h hb hcap ⊢
  rw [hR]
  clear hc hz hl hm h hN hR hr
  go_enter Try.func12, Try.ntmps12
  go_upto_region 1 with fail
  go_cut [5, 6] (fun s t wx => s = .int .u64 0 ∧ t = .int .u64 N ∧ w = wx)
  case first =>
    have hmx := HMax.out
    by_cases g : 0 ≤ n
    · obtain rfl : n = N := by omega
      go_wp2
      go_meet
      case rel => exact ⟨rfl, rfl, rfl⟩
    · obtain rfl : N = 0 := by omega
      go_wp2
      go_meet
      case rel => exact ⟨rfl, rfl, rfl⟩
  case rest =>
  obtain ⟨rfl, rfl, rfl⟩ := hcut
  go_wp2
  go_loop [5, 6, 15] (fun s t i => ∃ (k : Nat) (T : Int), k ≤ l ∧ i = .int .i64 k ∧ T = N - (zs.take k).sum ∧ s = .int .u64 (T / 18446744073709551616 % 18446744073709551616) ∧ t = .int .u64 (T % 18446744073709551616)) (fun _ _ i => l - (intOf i).toNat)
  case atStart => exact ⟨0, N, Nat.zero_le _, rfl, by simp, congrArg (Value.int .u64) (by omega), congrArg (Value.int .u64) (by omega)⟩
  case round =>
    obtain ⟨k, T, hk, rfl, hT, rfl, rfl⟩ := hrel
    by_cases hlt : k < l
    · obtain ⟨b, off, rfl, hcell⟩ := HC.out k hlt
      obtain ⟨e1, p0, p1⟩ := HX.out k hlt
      generalize zs.getD k 0 = p at hcell e1 p0 p1
      have HT : Hid (T - p = N - (zs.take (k + 1)).sum) := by show _ = _; omega
      obtain ⟨bo, hbo⟩ : ∃ bo : Int, (if T % 18446744073709551616 < p % 18446744073709551616 then 1 else 0) = bo := ⟨_, rfl⟩
      have b0 : 0 ≤ bo := by split at hbo <;> omega
      have b1 : bo ≤ 1 := by split at hbo <;> omega
      have HBo : Hid ((if T % 18446744073709551616 < p % 18446744073709551616 then 1 else 0) = bo) := hbo
      obtain ⟨w1, w2⟩ := two_words T p bo p0 p1 hbo
      have u0 : 0 ≤ upper p := by unfold upper; split <;> omega
      have u1 : upper p < 18446744073709551616 := by unfold upper; split <;> omega
      obtain ⟨lo, hlo⟩ : ∃ lo, T % 18446744073709551616 = lo := ⟨_, rfl⟩
      obtain ⟨hi, hhi⟩ : ∃ hi, T / 18446744073709551616 % 18446744073709551616 = hi := ⟨_, rfl⟩
      obtain ⟨pu, hpu⟩ : ∃ pu, p % 18446744073709551616 = pu := ⟨_, rfl⟩
      have l0 : 0 ≤ lo := by omega
      have h0 : 0 ≤ hi := by omega
      have q0 : 0 ≤ pu := by omega
      have q1 : pu < 18446744073709551616 := by omega
      rw [hlo, hpu] at HBo
      obtain ⟨bo2, hbo2⟩ : ∃ bo2 : Int, (if hi < upper p + bo then 1 else 0) = bo2 := ⟨_, rfl⟩
      have HBo2 : Hid ((if hi < upper p + bo then 1 else 0) = bo2) := hbo2
      have HW : Hid ((lo - pu) % 18446744073709551616 = (T - p) % 18446744073709551616 ∧ (hi - upper p - bo) % 18446744073709551616 = (T - p) / 18446744073709551616 % 18446744073709551616) := by
        show _ ∧ _
        rw [← hlo, ← hpu, ← hhi]
        exact ⟨w1, w2⟩
      have HP : Hid (IntKind.u64.wrap p = pu) := by show _ = _; rw [IntKind.wrap_u64]; exact hpu
      rw [hlo, hhi]
      clear hbo hbo2 w1 w2 hlo hhi hpu e1 hT
      have hup := upperWord_any p
      generalize upper p = U at *
      have HUp : Hid (∀ w : World, Calls Try.prog 23 #[.int .i64 p] w fun e w' => e = .returned (.int .u64 U) ∧ w' = w) := hup
      clear hup
      go_upto_region 6 with fail
      go_cut [6, 9] (fun s t wx => s = .int .u64 ((lo - pu) % 18446744073709551616) ∧ t = .int .u64 bo ∧ w = wx)
      case first =>
        have hw : ∀ W : World, (callFunc 22 #[.int .u64 lo, .int .u64 (IntKind.u64.wrap p), .int .u64 0]).run Try.prog W = .ok (.value (.tuple #[.int .u64 ((lo - pu) % 18446744073709551616), .int .u64 bo])) W := fun W => by rw [HP.out]; exact sub64_0 lo pu bo l0 q0 q1 HBo W
        go_wp2_with (simp only [hw])
        go_meet
        case rel => exact ⟨rfl, rfl, rfl⟩
      case rest =>
      obtain ⟨rfl, rfl, rfl⟩ := hcut
      go_wp2_with (first | (go_at_call 23; refine (HUp.out _).mono ?_; rintro e w' ⟨rfl, hw'⟩; subst hw') | simp only [sub64_1 hi U bo bo2 h0 u0 u1 b0 b1 HBo2])
      go_round
      case rel => exact ⟨k + 1, T - p, by omega, by go_num, HT.out, congrArg (Value.int .u64) HW.out.2, congrArg (Value.int .u64) HW.out.1⟩
      case measure => simp [intOf]; omega
    · obtain rfl : k = l := by omega
      have hB := HB.out
      have hE := HR.out
      rw [HF.out] at hT
      rw [← hT] at hB hE
      rcases two_words_end T hB.1 hB.2 with ⟨g1, g2, g3, g4, g5⟩ | ⟨g1, g2, g3⟩ | ⟨g1, g2⟩
      · rw [if_pos ⟨g3, g4⟩] at hE
        rw [g1, g5]
        subst hE
        clear hB g1 g2 g5 hT HR HB HX HC
        go_wp2
        go_ret
        exact ⟨rfl, rfl⟩
      · rw [if_neg g3] at hE
        rw [g1]
        have q1 : T % 18446744073709551616 < 18446744073709551616 := by omega
        generalize T % 18446744073709551616 = lo at *
        subst hE
        clear hB g1 g3 hT HR HB HX HC
        go_wp2
        go_ret
        exact ⟨rfl, rfl⟩
      · rw [if_neg g2] at hE
        have q0 : 0 ≤ T / 18446744073709551616 % 18446744073709551616 := by omega
        generalize T / 18446744073709551616 % 18446744073709551616 = hi at *
        have g3 : ¬ hi = 0 := g1
        generalize T % 18446744073709551616 = lo at *
        subst hE
        clear hB g1 g2 hT HR HB HX HC
        go_wp2
        go_ret
        exact ⟨rfl, rfl⟩

end Go.Proofs.Ytmchjfiaphkpdaa
