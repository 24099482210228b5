/-
  The walk of SharePro.
-/
import Derived.Test.YtmchjfiaphkpdaaShareAllWalk
namespace Go.Proofs.Ytmchjfiaphkpdaa
open Go.RowKit

theorem proL_low (n : Int) (zs : List Int) (hz : ∀ x ∈ zs, 0 ≤ x) (ht : zs.sum ≤ 1152921504606846976) (h0 : n ≤ 0) : proL n zs = List.replicate zs.length 0 := by
  unfold proL
  rw [sumFrom_total zs hz ht]
  simp only
  rw [if_pos h0]
theorem proL_full (n : Int) (zs : List Int) (hz : ∀ x ∈ zs, 0 ≤ x) (ht : zs.sum ≤ 1152921504606846976) (h0 : 0 < n) (h1 : zs.sum ≤ n) : proL n zs = zs := by
  unfold proL
  rw [sumFrom_total zs hz ht]
  simp only
  rw [if_neg (by omega), if_pos h1]
theorem zeros_at (l k : Nat) : (List.replicate l (0 : Int)).getD k 0 = 0 := by
  simp only [List.getD_eq_getElem?_getD, List.getElem?_replicate]
  split <;> rfl

/-- A share is less than a cent from its exact part. -/
theorem pro_near (n : Int) (zs : List Int) (hz : ∀ x ∈ zs, 0 ≤ x) (ht : zs.sum ≤ 1152921504606846976) (n0 : 0 ≤ n) (n1 : n ≤ zs.sum) (k : Nat) (hk : k < zs.length) (hT : 0 < zs.sum) :
    -zs.sum < (proL n zs).getD k 0 * zs.sum - n * zs.getD k 0 ∧ (proL n zs).getD k 0 * zs.sum - n * zs.getD k 0 < zs.sum := by
  by_cases h0 : n ≤ 0
  · obtain rfl : n = 0 := by omega
    rw [proL_low 0 zs hz ht h0, zeros_at]
    omega
  · by_cases h1 : zs.sum ≤ n
    · obtain rfl : n = zs.sum := by omega
      rw [proL_full _ zs hz ht (by omega) h1, Int.mul_comm]
      omega
    · obtain ⟨b, e, hb, _⟩ := pro_share n zs.sum zs (sumFrom_total zs hz ht) (by omega) (by omega) k hk
      rw [e, Int.add_mul]
      have e2 := Int.mul_ediv_add_emod (n * zs.getD k 0) zs.sum
      rw [Int.mul_comm] at e2
      have q0 := Int.emod_nonneg (n * zs.getD k 0) (show zs.sum ≠ 0 by omega)
      have q1 := Int.emod_lt_of_pos (n * zs.getD k 0) hT
      rcases hb with rfl | ⟨rfl, hr⟩
      · omega
      · omega

/-- Equal claims' shares: at most a cent apart, the first ones ahead. -/
theorem pro_equal (n : Int) (zs : List Int) (hz : ∀ x ∈ zs, 0 ≤ x) (ht : zs.sum ≤ 1152921504606846976) (i j : Nat) (hij : i < j) (hj : j < zs.length) (e : zs.getD i 0 = zs.getD j 0) :
    (proL n zs).getD j 0 ≤ (proL n zs).getD i 0 ∧ (proL n zs).getD i 0 ≤ (proL n zs).getD j 0 + 1 := by
  by_cases h0 : n ≤ 0
  · rw [proL_low n zs hz ht h0, zeros_at, zeros_at]
    omega
  · by_cases h1 : zs.sum ≤ n
    · rw [proL_full _ zs hz ht (by omega) h1]
      omega
    · have hs := sumFrom_total zs hz ht
      obtain ⟨b, e1, hb, hb2⟩ := pro_share n zs.sum zs hs (by omega) (by omega) i (by omega)
      obtain ⟨c, e2, hc, hc2⟩ := pro_share n zs.sum zs hs (by omega) (by omega) j hj
      have hl : ∀ k, k < zs.length → (lostL n zs.sum zs).getD k 0 = n * zs.getD k 0 % zs.sum := fun k hk => by simp [lostL, hk]
      have hr := rank_mono (lostL n zs.sum zs) i j hij (by rw [hl i (by omega), hl j hj, e])
      rw [e1, e2, e]
      have : c ≤ b := by
        rw [hb2, hc2]
        split <;> split <;> omega
      omega

set_option maxRecDepth 1000000 in
set_option maxHeartbeats 2000000 in
theorem sharePro_any (n : Int) (a : Option Addr) (len cap : Nat) (zs : List Int) (w : World) (_w0 : (Lit.int .i64 n).wf = true) (hrow : Row .i64 w a len cap zs) :
    Calls Try.prog 6 #[.int .i64 n, .slice a len cap] w fun e w' => e = .returned (.bool true) ∧ Below w.heap.size w w' := by
  obtain ⟨i0, hi, hz0, hz1, hz2⟩ := info_parts Try.info_ints
  obtain ⟨hlen, hm, hzl, hc0⟩ := hrow.cells
  clear hrow _w0
  unfold maxLen at hm
  have hc : Hid (∀ i, i < len → ∃ b off, a = some ⟨b, off, none⟩ ∧ w.cell? ⟨b, off + i, none⟩ = some (.int .i64 (zs.getD i 0))) := hc0
  clear hc0
  go_enter Try.func6, Try.ntmps6
  go_upto_block 0 with fail
  go_cut [5, 6] (fun v i wx => ∃ L : List Int, L.length ≤ 10 ∧ (∀ x ∈ L, 0 ≤ x ∧ x ≤ 16777216) ∧ wx.ownsRow w.heap.size 3 1 v L.length (L.map (Value.int .i64)) ∧ Below w.heap.size w wx)
  case first =>
    go_wp2_with fail
    go_loopw [5, 6] (fun v i wr => ∃ k : Nat, k ≤ len ∧ k ≤ 10 ∧ i = .int .i64 k ∧ wr.ownsRow w.heap.size 3 1 v k ((ownM 16777217 zs k).map (Value.int .i64)) ∧ Below w.heap.size w wr) (fun _ i _ => len - (intOf i).toNat)
    case atStart => exact ⟨0, Nat.zero_le _, Nat.zero_le _, rfl, World.ownsRow_nil _ _ _ _, Below.refl _ _⟩
    case round =>
      obtain ⟨k, hk, hk10, rfl, hown, hbel⟩ := hrel
      have hfin := ownM_range 16777217 (by decide) zs k
      have hfl := ownM_length 16777217 zs k (by omega)
      have HF : Hid (∃ L : List Int, L.length ≤ 10 ∧ (∀ x ∈ L, 0 ≤ x ∧ x ≤ 16777216) ∧ wr.ownsRow w.heap.size 3 1 u5 L.length (L.map (Value.int .i64)) ∧ Below w.heap.size w wr) := ⟨ownM 16777217 zs k, by omega, fun x hx => by have := hfin x hx; omega, by rw [hfl]; exact hown, hbel⟩
      clear hfin hfl
      by_cases hlt : k < len
      · by_cases h10 : k < 10
        · obtain ⟨b, off, rfl, hcell⟩ := hc.out k hlt
          have hcx : wr.cell? ⟨b, off + k, none⟩ = some (.int .i64 (zs.getD k 0)) := (hbel.cell (cell_block hcell)).trans hcell
          have hnx := ownM_next 16777217 zs k (by omega)
          generalize zs.getD k 0 = x at hcx hnx
          have HN : Hid (ownM 16777217 zs (k + 1) = ownM 16777217 zs k ++ [x % 16777217]) := hnx
          clear hc hnx hcell HF
          go_wp2_with (first
            | (go_at_call 19; refine (within_any _ _ _ (by omega) (by omega) (by omega) (by omega) _).mono ?_; rintro e w' ⟨rfl, hw'⟩; subst hw')
            | (at_builtin; refine wpList_append_src rfl (.tmp 24) (.tmp 30) 23 rfl w.heap.size 3 i0 (.int .i64 0) 1 8 Try.underlying23 hi hz0 hz1 hz2 rfl (by decide) _ _ _ rfl (hown.alloc _) _ 1 [.int .i64 (x % 16777217)] rfl (src_one _ _) rfl (by simp; rfl) ?c1 ?c2 ?c3 ?_))
          case c1 => unfold maxLen; omega
          case c2 => omega
          case c3 => have := hbel.size; simp; omega
          intro v' w1 hown' hgrow _
          have hb1 := below_append hbel hown hgrow
          have hown1 : w1.ownsRow w.heap.size 3 1 v' (k + 1) ((ownM 16777217 zs (k + 1)).map (Value.int .i64)) := by rw [HN.out, List.map_append]; exact hown'
          clear hown hown' hgrow hbel
          go_wp2
          go_roundw
          case rel => exact ⟨k + 1, by omega, by omega, by go_num, hown1, hb1⟩
          case measure => simp [intOf]; omega
        · clear hc hown hbel
          go_wp2
          go_meet
          case rel => exact HF.out
      · clear hc hown hbel
        go_wp2
        go_meet
        case rel => exact HF.out
  case rest =>
  obtain ⟨L, hL, hLr, hown, hB1⟩ := hcut
  have hR1 := own_reads hown
  clear hown hc hi hz0 hz1 hz2
  obtain ⟨a1, cap1, rfl, hcap1, hm1, hzz⟩ := id hR1
  clear hzz
  obtain ⟨m, hm⟩ : ∃ m, L.length = m := ⟨_, rfl⟩
  have hLp : ∀ x ∈ L, 0 ≤ x := fun x hx => (hLr x hx).1
  obtain ⟨T, hT⟩ : ∃ T, L.sum = T := ⟨_, rfl⟩
  obtain ⟨T0, T3⟩ := sum_small L 16777216 10 (by decide) hL hLr
  have T1 : L.sum ≤ 167772160 := by omega
  clear T3
  have T2 : L.sum ≤ 1152921504606846976 := by omega
  have hS := sumFrom_total L hLp T2
  obtain ⟨A, hA⟩ : ∃ A, 0 + n % (T - 0 + 1) = A := ⟨_, rfl⟩
  have A0 : 0 ≤ A := by have := Int.emod_nonneg n (show T - 0 + 1 ≠ 0 by omega); omega
  have A1 : A ≤ T := by have := Int.emod_lt_of_pos n (show 0 < T - 0 + 1 by omega); omega
  obtain ⟨X, hX⟩ : ∃ X, proL A L = X := ⟨_, rfl⟩
  have HP : Hid (∀ k, k < m → 0 ≤ X.getD k 0 ∧ X.getD k 0 ≤ L.getD k 0 ∧ L.getD k 0 ≤ 16777216 ∧ (0 < T → -T < X.getD k 0 * T - A * L.getD k 0 ∧ X.getD k 0 * T - A * L.getD k 0 < T)) := fun k hk => by
    have hmem : L.getD k 0 ∈ L := by simp [List.getD_eq_getElem?_getD, show k < L.length by omega]
    obtain ⟨p4, p5⟩ := pro_place A L A0 hLp T2 k (by omega)
    have p6 := pro_near A L hLp T2 A0 (by omega) k (by omega)
    rw [hX] at p4 p5 p6
    rw [hT] at p6
    exact ⟨p4, p5, (hLr _ hmem).2, p6⟩
  have HQ : Hid (∀ i j, i < j → j < m → L.getD i 0 = L.getD j 0 → X.getD j 0 ≤ X.getD i 0 ∧ X.getD i 0 ≤ X.getD j 0 + 1) := fun i j hij hj e => by
    have := pro_equal A L hLp T2 i j hij (by omega) e
    rw [hX] at this
    exact this
  have HXl : Hid (X.length = m) := by show _ = _; rw [← hX, proL_length, hm]
  have HPr : Hid (Calls Try.prog 11 #[.int .i64 A, .slice a1 m cap1] wc fun e w' => ∃ g, wc.heap.size ≤ g ∧ e = .returned (.slice (some ⟨g, 0, none⟩) m m) ∧ Reads w' (.slice (some ⟨g, 0, none⟩) m m) X ∧ Below wc.heap.size wc w') := by
    have := pro_b A _ L wc hR1 (by omega)
    rw [hm, hX] at this
    exact this
  have HSum : Hid (Calls Try.prog 18 #[.slice a1 m cap1] wc fun e w' => e = .returned (.tuple #[.int .i64 T, .bool true]) ∧ w' = wc) := by
    have := sum_any _ L wc hR1
    rw [hS, hm, hT] at this
    exact this
  have HA : Hid (0 + n % (T - 0 + 1) = A) := hA
  have HR : Hid (Reads wc (.slice a1 m cap1) L) := by rw [← hm]; exact hR1
  have HLm : Hid (L.length = m) := hm
  have HB1 : Hid (Below w.heap.size w wc) := hB1
  rw [hm] at hL hcap1 ⊢
  rw [hT] at T0 T1
  clear hR1 hm1 hm hLr hLp hT T2 hS hA hX hB1 hlen hzl
  have hs := HSum.out
  go_upto_region 8 with (first
    | (go_at_call 18; refine hs.mono ?_; rintro e w' ⟨rfl, hw'⟩; have hw' := hw'.symm; subst hw')
    | (go_at_call 19; refine (within_any _ _ _ (by omega) (by omega) (by omega) (by omega) _).mono ?_; rintro e w' ⟨rfl, hw'⟩; have hw' := hw'.symm; subst hw'; rw [HA.out]))
  clear hs HSum HA
  have hp := HPr.out
  go_upto_region 11 with (go_at_call 11; refine hp.mono ?_; rintro e w3 ⟨gx, _, rfl, rx, b3⟩)
  have HB3 : Hid (Below w.heap.size w w3) := below_then HB1.out b3
  have HRX : Hid (Reads w3 (.slice (some ⟨gx, 0, none⟩) m m) X) := rx
  have HRC : Hid (Reads w3 (.slice a1 m cap1) L) := HR.out.below b3
  clear hp b3 rx HPr HR HB1
  go_wp2
  go_loopw [50] (fun i wr => ∃ k : Nat, k ≤ m ∧ i = .int .i64 k ∧ ∃ q, wr = w3.drewN q) (fun i _ => m - (intOf i).toNat)
  case atStart => exact ⟨0, Nat.zero_le _, rfl, 0, rfl⟩
  case round =>
    obtain ⟨k, hk, rfl, q, rfl⟩ := hrel
    by_cases hlt : k < m
    · obtain ⟨b, off, rfl, hc⟩ := HRC.out.cellAt k (by rw [HLm.out]; exact hlt)
      obtain ⟨_, _, ex, hx⟩ := HRX.out.cellAt k (by rw [HXl.out]; exact hlt)
      simp only [Option.some.injEq, Addr.mk.injEq] at ex
      rw [← ex.1, ← ex.2.1, Nat.zero_add] at hx
      obtain ⟨p1, p2, p3, p4⟩ := HP.out k hlt
      have HQk : Hid (∀ i, i < k → L.getD i 0 = L.getD k 0 → X.getD k 0 ≤ X.getD i 0 ∧ X.getD i 0 ≤ X.getD k 0 + 1) := fun i hi e => HQ.out i k hi hlt e
      generalize X.getD k 0 = x at *
      generalize L.getD k 0 = c at *
      have k0 : (0 : Int) ≤ (k : Int) := by omega
      have k1 : (k : Int) < (m : Int) := by omega
      have r1 : 0 ≤ x * T := Int.mul_nonneg p1 T0
      have r2 : x * T ≤ 16777216 * 167772160 := Int.mul_le_mul (by omega) T1 T0 (by decide)
      have r3 : 0 ≤ A * c := Int.mul_nonneg A0 (by omega)
      have r4 : A * c ≤ 167772160 * 16777216 := Int.mul_le_mul (by omega) p3 (by omega) (by decide)
      have r5 : x * T ≤ 2814749767106560 := r2
      have r6 : A * c ≤ 2814749767106560 := r4
      obtain ⟨D, hD⟩ : ∃ D, x * T - A * c = D := ⟨_, rfl⟩
      rw [hD] at p4
      have HD : Hid (x * T - A * c = D) := hD
      clear r2 r4 hD ex
      go_upto_region 14 with fail
      go_quiet (fail)
      rw [HD.out]
      go_upto_region 15 with fail
      clear r1 r3 r5 r6 HD
      have hcz : c = 0 ∨ c ≠ 0 := by omega
      have htz : T = 0 ∨ 0 < T := by omega
      go_cut [92] (fun t wx => t = .bool false ∧ ∃ q', wx = w3.drewN q')
      case first =>
        rcases hcz with rfl | hcz
        · obtain rfl : x = 0 := by omega
          rcases htz with rfl | htz
          · go_wp2
            go_meet
            case rel => exact ⟨rfl, _, rfl⟩
          · obtain ⟨p5, p6⟩ := p4 htz
            have d1 : decide (D ≤ -T) = false := by simp; omega
            have d2 : decide (T ≤ D) = false := by simp; omega
            go_wp2
            go_meet
            case rel => exact ⟨rfl, _, rfl⟩
        · rcases htz with rfl | htz
          · go_wp2
            go_meet
            case rel => exact ⟨rfl, _, rfl⟩
          · obtain ⟨p5, p6⟩ := p4 htz
            have d1 : decide (D ≤ -T) = false := by simp; omega
            have d2 : decide (T ≤ D) = false := by simp; omega
            go_wp2
            go_meet
            case rel => exact ⟨rfl, _, rfl⟩
      case rest =>
      obtain ⟨rfl, q1, rfl⟩ := hcut
      clear p4 hcz htz
      go_wp2
      go_loopw [13] (fun j wr => ∃ i : Nat, i ≤ k ∧ j = .int .i64 i ∧ ∃ q', wr = w3.drewN q') (fun j _ => k - (intOf j).toNat)
      case atStart => exact ⟨0, Nat.zero_le _, rfl, _, rfl⟩
      case round =>
        obtain ⟨i, hi, rfl, q2, rfl⟩ := hrel
        by_cases hik : i < k
        · obtain ⟨b', off', eb, hci⟩ := HRC.out.cellAt i (by rw [HLm.out]; omega)
          obtain ⟨_, _, ex, hxi⟩ := HRX.out.cellAt i (by rw [HXl.out]; omega)
          simp only [Option.some.injEq, Addr.mk.injEq] at ex eb
          rw [← ex.1, ← ex.2.1, Nat.zero_add] at hxi
          rw [← eb.1, ← eb.2.1] at hci
          have hq := HQk.out i hik
          have p7 := HP.out i (by omega)
          have p8 : 0 ≤ X.getD i 0 ∧ X.getD i 0 ≤ 16777216 := by omega
          clear p7 ex eb
          generalize X.getD i 0 = y at *
          generalize L.getD i 0 = d at *
          have j0 : (0 : Int) ≤ (i : Int) := by omega
          have j1 : (i : Int) < (m : Int) := by omega
          have j2 : (i : Int) < (k : Int) := by omega
          by_cases hcd : d = c
          · obtain ⟨q3, q4⟩ := hq hcd
            subst hcd
            have d1 : decide (y < x) = false := by simp; omega
            have d2 : decide (x + 1 < y) = false := by simp; omega
            clear hq q3 q4
            go_wp2
            go_quiet (fail)
            go_wp2
            go_roundw
            case rel => exact ⟨i + 1, by omega, by go_num, _, rfl⟩
            case measure => simp [intOf]; omega
          · have d1 : (d == c) = false := by simpa using hcd
            clear hq hcd
            go_wp2
            go_quiet (fail)
            go_wp2
            go_roundw
            case rel => exact ⟨i + 1, by omega, by go_num, _, rfl⟩
            case measure => simp [intOf]; omega
        · obtain rfl : i = k := by omega
          go_wp2
          go_roundw
          case rel => exact ⟨i + 1, by omega, by go_num, _, rfl⟩
          case measure => simp [intOf]; omega
    · obtain rfl : k = m := by omega
      refine wp_letter (fun wx => Below w3.heap.size w3 wx) (below_draws (Below.refl _ _) q) ?_
      rintro W bW
      have hB : Below w.heap.size w W := below_then HB3.out bW
      clear HRX HRC HP HXl HLm bW HB3 HQ
      go_wp2_with (go_at_call 3; refine (shareRuns_any _).mono ?_; rintro e w' ⟨rfl, b4⟩)
      go_ret
      exact ⟨rfl, below_then hB b4⟩
end Go.Proofs.Ytmchjfiaphkpdaa
