/-
  Package cascaderef1: the walks of InOrder and of remainder.
-/
import Derived.Test.YtmchjfiaphkpdaaRefMulDiv
import Derived.Test.YtmchjfiaphkpdaaShareP
import Derived.Test.YtmchjfiaphkpdaaBookMem
namespace Go.Proofs.Ytmchjfiaphkpdaa
open Go.RowKit

theorem rem_step (a per B : Int) :
    a * (2 * B) % per = 2 * (a * B % per) % per ∧ a * (2 * B + 1) % per = (2 * (a * B % per) % per + a % per) % per := by
  have e := Int.mul_ediv_add_emod (a * B) per
  generalize a * B / per = d at *
  have e2 : a * (2 * B) = 2 * (a * B % per) + per * (2 * d) := by
    have h1 : a * (2 * B) = 2 * (a * B) := by rw [Int.mul_left_comm]
    have h2 : per * (2 * d) = 2 * (per * d) := by rw [Int.mul_left_comm]
    rw [h1, h2]
    omega
  refine ⟨by rw [e2, Int.add_mul_emod_self_left], ?_⟩
  rw [← Int.add_emod, Int.mul_add, e2, Int.mul_one, Int.add_assoc, Int.add_comm (per * (2 * d)) a, ← Int.add_assoc, Int.add_mul_emod_self_left]

set_option maxRecDepth 100000 in
set_option maxHeartbeats 2000000 in
theorem remainder_any (a b per : Int) (w : World) (a0 : 0 ≤ a) (b0 : 0 ≤ b) (b1 : b ≤ 1152921504606846976) (c1 : 1 ≤ per) (c2 : per ≤ 1152921504606846976) :
    Calls Try.prog 26 #[.int .i64 a, .int .i64 b, .int .i64 per] w fun e w' => e = .returned (.int .i64 (a * b % per)) ∧ w' = w := by
  have M0 : 0 ≤ a % per := Int.emod_nonneg _ (by omega)
  have M1 : a % per < per := Int.emod_lt_of_pos _ (by omega)
  go_enter Try.func26, Try.ntmps26
  go_wp2
  go_loop [7, 8] (fun r i => ∃ (j : Nat) (R : Int), j ≤ 61 ∧ i = .int .i64 (j - 1) ∧ r = .int .i64 R ∧ 0 ≤ R ∧ R < per ∧ R = a * (b / 2 ^ j) % per) (fun _ i => (intOf i + 1).toNat)
  case atStart =>
    have e : b / 2 ^ 61 = 0 := Int.ediv_eq_zero_of_lt b0 (by omega)
    exact ⟨61, 0, by omega, rfl, rfl, by omega, by omega, by rw [e]; simp⟩
  case round =>
    obtain ⟨j, R, hj, rfl, rfl, R0, R1, hR⟩ := hrel
    by_cases hj0 : 1 ≤ j
    · obtain ⟨i, rfl⟩ : ∃ i, j = i + 1 := ⟨j - 1, by omega⟩
      have hbit := low_bit (b / 2 ^ i) (Int.ediv_nonneg b0 (Int.pow_nonneg (by omega))) (by have := pow_div_le b i b0; omega)
      have hh := half_bits b i
      obtain ⟨t1, t2⟩ := rem_step a per (b / 2 ^ (i + 1))
      rw [← hR] at t1 t2
      have F0 : 0 ≤ (2 * R) % per := Int.emod_nonneg _ (by omega)
      have F1 : (2 * R) % per < per := Int.emod_lt_of_pos _ (by omega)
      rcases Int.emod_two_eq (b / 2 ^ i) with hz | hz
      · rw [hz, Int.add_zero] at hh
        rw [← hh] at t1
        have bb : (bits BinOp.and IntKind.i64 (b / 2 ^ i) 1 == 1) = false := by rw [hbit, hz]; rfl
        have HT : Hid ((2 * R) % per = a * (b / 2 ^ i) % per) := t1.symm
        clear hz hbit hh t1 t2 hR
        go_wp2
        go_round
        case rel => exact ⟨i, _, by omega, rfl, rfl, F0, F1, HT.out⟩
        case measure => simp [intOf]
      · rw [hz] at hh
        rw [← hh] at t2
        have bb : (bits BinOp.and IntKind.i64 (b / 2 ^ i) 1 == 1) = true := by rw [hbit, hz]; rfl
        have HT : Hid ((2 * R % per + a % per) % per = a * (b / 2 ^ i) % per) := t2.symm
        clear hz hbit hh t1 t2 hR
        have G0 : 0 ≤ (2 * R % per + a % per) % per := Int.emod_nonneg _ (by omega)
        have G1 : (2 * R % per + a % per) % per < per := Int.emod_lt_of_pos _ (by omega)
        go_wp2
        go_round
        case rel => exact ⟨i, _, by omega, rfl, rfl, G0, G1, HT.out⟩
        case measure => simp [intOf]
    · obtain rfl : j = 0 := by omega
      have HT : Hid (R = a * b % per) := by
        show _ = _
        rw [hR]
        simp
      clear hR
      go_wp2
      go_ret
      exact ⟨ret_int HT.out, rfl⟩

set_option maxHeartbeats 1000000 in
theorem refInOrder_any (N : Int) (v : Value) (zs : List Int) (w : World) (h : Reads w v zs) (hb : zs.length ≤ 1000000) (N0 : 0 ≤ N) (N1 : N ≤ 9223372036854775807) :
    Calls Try.prog 14 #[.int .i64 N, v] w fun e w' => e = .returned (.slice (some ⟨w.heap.size, 0, none⟩) zs.length zs.length) ∧
      w'.ownsRow w.heap.size 3 1 (.slice (some ⟨w.heap.size, 0, none⟩) zs.length zs.length) zs.length ((inOrd N zs).map (Value.int .i64)) ∧ Below w.heap.size w w' := by
  obtain ⟨i0, hi, hz0, hz1, hz2⟩ := info_parts Try.info_ints
  obtain ⟨a, cap, rfl, hcap, hm, hz⟩ := id h
  obtain ⟨l, hl⟩ : ∃ l, zs.length = l := ⟨_, rfl⟩
  have HR : Hid (∀ k, k ≤ l → 0 ≤ ordLeft N zs k ∧ ordLeft N zs k ≤ N) := fun k hk => ordLeft_range N zs N0 k (by omega)
  have HX : Hid (∀ k, k < l → inOrd N (zs.take (k + 1)) = inOrd N (zs.take k) ++ [min (ordLeft N zs k) (max (zs.getD k 0) 0)] ∧ ordLeft N zs (k + 1) = ordLeft N zs k - min (ordLeft N zs k) (max (zs.getD k 0) 0)) := fun k hk => ⟨inOrd_next N zs k (by omega), ordLeft_next N zs k (by omega)⟩
  have HF : Hid (inOrd N (zs.take l) = inOrd N zs) := by show _ = _; rw [List.take_of_length_le (by omega)]
  have HL : Hid (∀ k, k ≤ l → (inOrd N (zs.take k)).length = k) := fun k hk => by rw [inOrd_length, List.length_take]; omega
  have H0 : Hid (ordLeft N zs 0 = N) := by simp [Hid, ordLeft, inOrd]
  have HC : Hid (∀ k, k < l → ∃ b off, a = some ⟨b, off, none⟩ ∧ w.cell? ⟨b, off + k, none⟩ = some (.int .i64 (zs.getD k 0))) := fun k hk => by
    rcases hz with rfl | ⟨b, off, rfl, hc⟩
    · simp at hl; omega
    · exact ⟨b, off, rfl, hc k (by omega)⟩
  rw [hl] at h hb hcap ⊢
  clear hz hl hm h
  go_enter Try.func14, Try.ntmps14
  go_upto_region 2 with (at_make; refine wpList_make_full _ rfl _ _ 23 rfl w.heap.size 3 i0 (.int .i64 0) 1 Try.underlying23 hi hz0 hz1 .i64 .i64 _ _ l rfl rfl (by simp) (by simp) (by rw [hz2]; omega) (by unfold maxLen; omega) (Nat.le_refl _) ?_; intro w1 o1 g1)
  have b1 : Below w.heap.size w w1 := below_grown (Below.refl _ _) g1 (fun k hk => by simp at hk)
  rw [made_zeros, ← fillAt_nil] at o1
  clear g1
  go_wp2
  go_loopw [0, 13] (fun t i wr => ∃ k : Nat, k ≤ l ∧ i = .int .i64 k ∧ t = .int .i64 (ordLeft N zs k) ∧ wr.ownsRow w.heap.size 3 1 (.slice (some ⟨w.heap.size, 0, none⟩) l l) l ((fillAt (inOrd N (zs.take k)) l).map (Value.int .i64)) ∧ Below w.heap.size w wr) (fun _ i _ => l - (intOf i).toNat)
  case atStart => exact ⟨0, Nat.zero_le _, rfl, by rw [H0.out], o1, b1⟩
  case round =>
    obtain ⟨k, hk, rfl, rfl, ho, hbl⟩ := hrel
    by_cases hlt : k < l
    · obtain ⟨b, off, rfl, hcell⟩ := HC.out k hlt
      have hcx : wr.cell? ⟨b, off + k, none⟩ = some (.int .i64 (zs.getD k 0)) := (hbl.cell (cell_block hcell)).trans hcell
      obtain ⟨m0, m1⟩ := HR.out k hk
      obtain ⟨e1, e2⟩ := HX.out k hlt
      generalize zs.getD k 0 = x at hcx e1 e2
      generalize ordLeft N zs k = M at m0 m1 e1 e2
      obtain ⟨s, hs⟩ : ∃ s, min M (max x 0) = s := ⟨_, rfl⟩
      rw [hs] at e1 e2
      have s0 : 0 ≤ s := by omega
      have s1 : s ≤ M := by omega
      have hst := ho.stored k (.int .i64 s)
      rw [fill_next _ l s k (HL.out k hk) hlt, ← e1] at hst
      have hcell2 : wr.cell? ⟨w.heap.size, k, none⟩ = some (((fillAt (inOrd N (zs.take k)) l).map (Value.int .i64)).getD k undef) := by
        have hfl := fillAt_length (inOrd N (zs.take k)) l (by rw [HL.out k hk]; omega)
        have := ho.cellAt k (by omega)
        rw [this, List.getElem?_eq_getElem (by simp [hfl]; omega)]
        rw [List.getD_eq_getElem?_getD, List.getElem?_eq_getElem (by simp [hfl]; omega)]
        rfl
      generalize ((fillAt (inOrd N (zs.take k)) l).map (Value.int .i64)).getD k undef = y at hcell2
      have hfr := ho.frozenAt k
      have HST : Hid ((wr.setCell ⟨w.heap.size, k, none⟩ (.int .i64 s)).ownsRow w.heap.size 3 1 (.slice (some ⟨w.heap.size, 0, none⟩) l l) l ((fillAt (inOrd N (zs.take (k + 1))) l).map (Value.int .i64))) := hst.1
      have HB2 : Hid (Below w.heap.size w wr) := hbl
      have HE : Hid (ordLeft N zs (k + 1) = M - s) := e2
      have c1 : ∃ u, (if x < M then x else M) = u ∧ (if 0 < u then u else 0) = s := ⟨_, rfl, by split <;> split <;> omega⟩
      obtain ⟨u, c1, c2⟩ := c1
      clear hst ho hbl e1 e2 hs hcell o1 b1
      go_wp2
      go_roundw
      case rel => exact ⟨k + 1, by omega, by go_num, congrArg (Value.int .i64) (by have := HE.out; omega), HST.out, HB2.out.setCell (p := ⟨w.heap.size, k, none⟩) (Nat.le_refl _) _⟩
      case measure => simp [intOf]; omega
    · obtain rfl : k = l := by omega
      have HO : Hid (wr.ownsRow w.heap.size 3 1 (.slice (some ⟨w.heap.size, 0, none⟩) k k) k ((inOrd N zs).map (Value.int .i64))) := by
        rw [fillAt_full _ k (HL.out k hk), HF.out] at ho
        exact ho
      have HB2 : Hid (Below w.heap.size w wr) := hbl
      clear ho hbl o1 b1
      go_wp2
      go_ret
      exact ⟨rfl, HO.out, HB2.out⟩

end Go.Proofs.Ytmchjfiaphkpdaa
