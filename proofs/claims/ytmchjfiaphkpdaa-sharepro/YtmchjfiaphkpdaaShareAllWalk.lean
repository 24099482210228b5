/-
  The walk of ShareAll.
-/
import Derived.Test.YtmchjfiaphkpdaaShareRunsWalk
import Derived.Test.YtmchjfiaphkpdaaShareFacts
namespace Go.Proofs.Ytmchjfiaphkpdaa
open Go.RowKit

theorem reads_nil (w : World) : Reads w (.slice none 0 0) [] := ⟨none, 0, rfl, Nat.le_refl _, by simp, Or.inl rfl⟩

theorem Reads.cellAt {w : World} {a : Option Addr} {n cap : Nat} {zs : List Int} (h : Reads w (.slice a n cap) zs) (k : Nat) (hk : k < zs.length) : ∃ b off, a = some ⟨b, off, none⟩ ∧ w.cell? ⟨b, off + k, none⟩ = some (.int .i64 (zs.getD k 0)) := by
  obtain ⟨a', c', e, _, _, rfl | ⟨b, off, e', hc⟩⟩ := h
  · simp at hk
  · simp only [Value.slice.injEq] at e
    exact ⟨b, off, e.1.trans e', hc k hk⟩

set_option maxRecDepth 1000000 in
set_option maxHeartbeats 2000000 in
theorem shareAll_any (n : Int) (a : Option Addr) (len cap : Nat) (zs : List Int) (w : World) (_w0 : (Lit.int .i64 n).wf = true) (hrow : Row .i64 w a len cap zs) :
    Calls Try.prog 5 #[.int .i64 n, .slice a len cap] w fun e w' => e = .returned (.bool true) ∧ Below w.heap.size w w' := by
  have hrd := hrow.reads
  clear hrow _w0
  have HCl := claims_any _ _ w hrd
  clear hrd
  go_enter Try.func5, Try.ntmps5
  go_upto_region 2 with (go_at_call 17; refine HCl.mono ?_; rintro e w1 ⟨v, L, rfl, hL, hLr, hown, hB1⟩)
  clear HCl
  have hR1 := own_reads hown
  clear hown
  obtain ⟨a1, cap1, rfl, hcap1, hm1, hzz⟩ := id hR1
  clear hzz
  obtain ⟨m, hm⟩ : ∃ m, L.length = m := ⟨_, rfl⟩
  have hLp : ∀ x ∈ L, 0 ≤ x := fun x hx => (hLr x hx).1
  obtain ⟨T, hT⟩ : ∃ T, L.sum = T := ⟨_, rfl⟩
  obtain ⟨T0, T3⟩ := sum_small L 1099511627776 12 (by decide) hL hLr
  have T1 : L.sum ≤ 13194139533312 := by omega
  clear T3
  have T2 : L.sum ≤ 1152921504606846976 := by omega
  have hS := sumFrom_total L hLp T2
  obtain ⟨A, hA⟩ : ∃ A, 0 + n % (T + 9 - 0 + 1) = A := ⟨_, rfl⟩
  have A0 : 0 ≤ A := by have := Int.emod_nonneg n (show T + 9 - 0 + 1 ≠ 0 by omega); omega
  have A1 : A ≤ T + 9 := by have := Int.emod_lt_of_pos n (show 0 < T + 9 - 0 + 1 by omega); omega
  obtain ⟨X, hX⟩ : ∃ X, inOrd A L = X := ⟨_, rfl⟩
  obtain ⟨Y, hY⟩ : ∃ Y, proL A L = Y := ⟨_, rfl⟩
  obtain ⟨MN, hMN⟩ : ∃ MN, min A T = MN := ⟨_, rfl⟩
  obtain ⟨MX, hMX⟩ : ∃ MX, max (A - T) 0 = MX := ⟨_, rfl⟩
  have HM : Hid ((A < T ∧ MN = A ∧ MX = 0) ∨ (T ≤ A ∧ MN = T ∧ MX = A - T)) := by show _ ∨ _; omega
  have HP : Hid (∀ k, k < m → 0 ≤ X.getD k 0 ∧ X.getD k 0 ≤ L.getD k 0 ∧ (shortB X L k = true → X.getD k 0 = 0) ∧ 0 ≤ Y.getD k 0 ∧ Y.getD k 0 ≤ L.getD k 0) := fun k hk => by
    obtain ⟨p1, p2, p3⟩ := order_place A L A0 hLp k (by omega)
    obtain ⟨p4, p5⟩ := pro_place A L A0 hLp T2 k (by omega)
    rw [hX] at p1 p2 p3
    rw [hY] at p4 p5
    exact ⟨p1, p2, p3, p4, p5⟩
  have sX : X.sum = MN := by rw [← hX, inOrd_sum L A A0 hLp, hT, hMN]
  have sY : Y.sum = MN := by rw [← hY, proL_sum A L A0 hLp T2, hT, hMN]
  have HSX : Hid (sumFrom X 0 = some MN) := by
    show _ = _
    rw [sumFrom_total X (by rw [← hX]; exact inOrd_nonneg L A A0) (by omega), sX]
  have HSY : Hid (sumFrom Y 0 = some MN) := by
    show _ = _
    rw [sumFrom_total Y (by rw [← hY]; exact proL_nonneg A L A0 hLp T2) (by omega), sY]
  have HLX : Hid (leftL A X = MX) := by show _ = _; rw [← hX, leftL_order A L A0 (by omega) hLp, hT, hMX]
  have HLN : Hid (leftL A [] = A) := leftL_nil A A0 (by omega)
  have HXl : Hid (X.length = m ∧ Y.length = m) := by
    refine ⟨by rw [← hX, inOrd_length, hm], by rw [← hY, proL_length, hm]⟩
  have HXr : Hid (∀ x ∈ X, -9223372036854775808 ≤ x ∧ x ≤ 9223372036854775807) := by
    refine getD_mem_range X (fun x => -9223372036854775808 ≤ x ∧ x ≤ 9223372036854775807) fun k hk => ?_
    have hk' : k < m := by rw [← HXl.out.1]; exact hk
    have hmem : L.getD k 0 ∈ L := by simp [List.getD_eq_getElem?_getD, show k < L.length by omega]
    have := HP.out k hk'
    have := hLr _ hmem
    show -9223372036854775808 ≤ X.getD k 0 ∧ X.getD k 0 ≤ 9223372036854775807
    omega
  have HI : Hid (∀ W, Below w1.heap.size w1 W → Calls Try.prog 10 #[.int .i64 A, .slice a1 m cap1] W fun e w' => ∃ g, W.heap.size ≤ g ∧ e = .returned (.slice (some ⟨g, 0, none⟩) m m) ∧ Reads w' (.slice (some ⟨g, 0, none⟩) m m) X ∧ Below W.heap.size W w') := fun W hW => by
    have := inOrder_b A _ L W (hR1.below hW) (by omega) (by omega)
    rw [hm, show max A 0 = A by omega, hX] at this
    exact this
  have HPr : Hid (∀ W, Below w1.heap.size w1 W → Calls Try.prog 11 #[.int .i64 A, .slice a1 m cap1] W fun e w' => ∃ g, W.heap.size ≤ g ∧ e = .returned (.slice (some ⟨g, 0, none⟩) m m) ∧ Reads w' (.slice (some ⟨g, 0, none⟩) m m) Y ∧ Below W.heap.size W w') := fun W hW => by
    have := pro_b A _ L W (hR1.below hW) (by omega)
    rw [hm, hY] at this
    exact this
  have HSum : Hid (Calls Try.prog 18 #[.slice a1 m cap1] w1 fun e w' => e = .returned (.tuple #[.int .i64 T, .bool true]) ∧ w' = w1) := by
    have := sum_any _ L w1 hR1
    rw [hS, hm, hT] at this
    exact this
  have HA : Hid (0 + n % (T + 9 - 0 + 1) = A) := hA
  have HR : Hid (Reads w1 (.slice a1 m cap1) L) := by rw [← hm]; exact hR1
  have HLm : Hid (L.length = m) := hm
  have HB1 : Hid (Below w.heap.size w w1) := hB1
  rw [hm] at hL hcap1 ⊢
  rw [hT] at T0 T1
  clear hR1 hm1 hm hLr hLp hT T2 hS hA hX hY hMN hMX sX sY hB1
  have hs := HSum.out
  go_upto_region 4 with (first
    | (go_at_call 18; refine hs.mono ?_; rintro e w' ⟨rfl, hw'⟩; have hw' := hw'.symm; subst hw')
    | (go_at_call 19; refine (within_any _ _ _ (by omega) (by omega) (by omega) (by omega) _).mono ?_; rintro e w' ⟨rfl, hw'⟩; have hw' := hw'.symm; subst hw'; rw [HA.out]))
  clear hs HSum HA
  go_upto_region 5 with (first
    | (go_at_call 10; refine (HI.out _ (Below.refl _ _)).mono ?_; rintro e w2 ⟨gx, _, rfl, rx, b2⟩; have hI := HPr.out _ b2)
    | (go_at_call 11; refine hI.mono ?_; rintro e w3 ⟨gy, _, rfl, ry, b3⟩))
  have b13 := below_then b2 b3
  have HB3 : Hid (Below w.heap.size w w3) := below_then HB1.out b13
  have HRX : Hid (Reads w3 (.slice (some ⟨gx, 0, none⟩) m m) X) := rx.below b3
  have HRY : Hid (Reads w3 (.slice (some ⟨gy, 0, none⟩) m m) Y) := ry
  have HRC : Hid (Reads w3 (.slice a1 m cap1) L) := HR.out.below b13
  clear hI b2 b3 b13 rx ry HI HPr HR HB1
  go_wp2
  go_loopw [11, 52] (fun t i wr => ∃ k : Nat, k ≤ m ∧ i = .int .i64 k ∧ t = .bool (shortB X L k) ∧ ∃ q, wr = w3.drewN q) (fun _ i _ => m - (intOf i).toNat)
  case atStart => exact ⟨0, Nat.zero_le _, rfl, rfl, 0, rfl⟩
  case round =>
    obtain ⟨k, hk, rfl, rfl, q, rfl⟩ := hrel
    by_cases hlt : k < m
    · obtain ⟨b, off, rfl, hc⟩ := HRC.out.cellAt k (by rw [HLm.out]; exact hlt)
      obtain ⟨_, _, ex, hx⟩ := HRX.out.cellAt k (by rw [HXl.out.1]; exact hlt)
      obtain ⟨_, _, ey, hy⟩ := HRY.out.cellAt k (by rw [HXl.out.2]; exact hlt)
      simp only [Option.some.injEq, Addr.mk.injEq] at ex ey
      rw [← ex.1, ← ex.2.1, Nat.zero_add] at hx
      rw [← ey.1, ← ey.2.1, Nat.zero_add] at hy
      obtain ⟨p1, p2, p3, p4, p5⟩ := HP.out k hlt
      have hnx : shortB X L (k + 1) = (shortB X L k || decide (X.getD k 0 < L.getD k 0)) := rfl
      generalize X.getD k 0 = x at *
      generalize Y.getD k 0 = y at *
      generalize L.getD k 0 = c at *
      have HN : Hid (shortB X L (k + 1) = (shortB X L k || decide (x < c))) := hnx
      clear hnx ex ey
      generalize shortB X L k = t at *
      have d1 : decide (x < 0) = false := by simp; omega
      have d2 : decide (c < x) = false := by simp; omega
      have d3 : decide (y < 0) = false := by simp; omega
      have d4 : decide (c < y) = false := by simp; omega
      have k0 : (0 : Int) ≤ (k : Int) := by omega
      have k1 : (k : Int) < (m : Int) := by omega
      cases t
      · clear p1 p2 p3 p4 p5
        go_wp2
        go_quiet (fail)
        go_wp2
        go_quiet (fail)
        go_wp2
        go_roundw
        case rel => exact ⟨k + 1, by omega, by go_num, by rw [HN.out]; rfl, _, rfl⟩
        case measure => simp [intOf]; omega
      · have d5 : decide (0 < x) = false := by have := p3 rfl; simp; omega
        clear p1 p2 p3 p4 p5
        go_wp2
        go_quiet (fail)
        go_wp2
        go_quiet (fail)
        go_wp2
        go_roundw
        case rel => exact ⟨k + 1, by omega, by go_num, by rw [HN.out]; rfl, _, rfl⟩
        case measure => simp [intOf]; omega
    · obtain rfl : k = m := by omega
      refine wp_letter (fun wx => Below w3.heap.size w3 wx) (below_draws (Below.refl _ _) q) ?_
      rintro W bW
      have hB : Below w.heap.size w W := below_then HB3.out bW
      have hsx : Calls Try.prog 18 #[.slice (some ⟨gx, 0, none⟩) k k] W fun e w' => e = .returned (.tuple #[.int .i64 MN, .bool true]) ∧ w' = W := by
        have := sum_any _ X W (HRX.out.below bW)
        rw [HSX.out] at this
        exact this
      have hsy : Calls Try.prog 18 #[.slice (some ⟨gy, 0, none⟩) k k] W fun e w' => e = .returned (.tuple #[.int .i64 MN, .bool true]) ∧ w' = W := by
        have := sum_any _ Y W (HRY.out.below bW)
        rw [HSY.out] at this
        exact this
      have hlx : Calls Try.prog 12 #[.int .i64 A, .slice (some ⟨gx, 0, none⟩) k k] W fun e w' => e = .returned (.int .i64 MX) ∧ w' = W := by
        have := left_any A _ X W (HRX.out.below bW) (by rw [HXl.out.1]; omega) (by omega) HXr.out
        rw [HLX.out] at this
        exact this
      have hln : Calls Try.prog 12 #[.int .i64 A, .slice none 0 0] W fun e w' => e = .returned (.int .i64 A) ∧ w' = W := by
        have := left_any A _ [] W (reads_nil W) (by simp) (by omega) (by simp)
        rw [HLN.out] at this
        exact this
      have hm := HM.out
      clear HRX HRY HRC HP HSX HSY HLX HLN HXl HXr HLm HM bW HB3
      have e1 : (if T < A then T else A) = MN := by split <;> omega
      have e2 : (if A - T < 0 then 0 else A - T) = MX := by split <;> omega
      have m0 : 0 ≤ MN := by omega
      clear hm
      all_goals
        go_wp2_with (first
          | (go_at_call_of 18 (Value.slice (some ⟨gx, 0, none⟩) k k); refine hsx.mono ?_; rintro e w' ⟨rfl, hw'⟩; subst hw')
          | (go_at_call 18; refine hsy.mono ?_; rintro e w' ⟨rfl, hw'⟩; subst hw')
          | (go_at_call_of 12 (Value.slice (some ⟨gx, 0, none⟩) k k); refine hlx.mono ?_; rintro e w' ⟨rfl, hw'⟩; subst hw')
          | (go_at_call 12; refine hln.mono ?_; rintro e w' ⟨rfl, hw'⟩; subst hw')
          | (go_at_call 3; refine (shareRuns_any _).mono ?_; rintro e w' ⟨rfl, b4⟩))
        go_ret
        exact ⟨rfl, below_then hB b4⟩
end Go.Proofs.Ytmchjfiaphkpdaa
