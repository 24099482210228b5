/-
  Package late: the walks of bucket, Of, From, All, within, mayBe, AtLeast, AtMost.
-/
import Derived.Test.YtbppaomenhdjeaaLateP
import Derived.Test.YtbppaomenhdjeaaLiesNew
namespace Go.Proofs.Ytbppaomenhdjeaa
open Go.RowKit

theorem bucket_any (m : Int) (w : World) : Calls Try.prog 17 #[.int .i64 m] w fun e w' => e = .returned (.int .i64 (bkI m)) ∧ w' = w := by
  unfold bkI
  by_cases h0 : m ≤ 0
  · rw [if_pos h0]
    go_enter Try.func17, Try.ntmps17
    go_wp2
    go_ret
    exact ⟨rfl, rfl⟩
  · rw [if_neg h0]
    by_cases h1 : m ≤ 2
    · rw [if_pos h1]
      go_enter Try.func17, Try.ntmps17
      go_wp2
      go_ret
      exact ⟨rfl, rfl⟩
    · rw [if_neg h1]
      by_cases h2 : m ≤ 5
      · rw [if_pos h2]
        go_enter Try.func17, Try.ntmps17
        go_wp2
        go_ret
        exact ⟨rfl, rfl⟩
      · rw [if_neg h2]
        go_enter Try.func17, Try.ntmps17
        go_wp2
        go_ret
        exact ⟨rfl, rfl⟩

set_option maxHeartbeats 1000000 in
theorem from_any (t : BkT) (k : Int) (ht : t.Bd 1152921504606846976) (h0 : -9223372036854775808 ≤ k) (h1 : k ≤ 9223372036854775807) (w : World) :
    Calls Try.prog 13 #[t.v, .int .i64 k] w fun e w' => e = .returned (.int .i64 (t.from k)) ∧ Below w.heap.size w w' := by
  obtain ⟨F, hF⟩ : ∃ F, t.from k = F := ⟨_, rfl⟩
  obtain ⟨m, hm⟩ : ∃ m, (if k < 0 then 0 else k) = m := ⟨_, rfl⟩
  have hm0 : 0 ≤ m := by rw [← hm]; split <;> omega
  have hm1 : m ≤ 9223372036854775807 := by rw [← hm]; split <;> omega
  have hFm : Hid (t.from m = F) := by
    show t.from m = F
    rw [← hF, ← hm]
    split
    · rw [t.from_zero 0 (by omega), t.from_zero k (by omega)]
    · rfl
  have hbd := BkT.from_bd ht
  rw [hF]
  have hF4 : 0 ≤ F ∧ F ≤ 4 * 1152921504606846976 := by rw [← hF]; exact hbd k
  clear hF
  unfold BkT.v
  have ea : ∀ j : Nat, j < 4 → t.from j = t.at j + t.from (j + 1 : Nat) := t.from_succ
  have HE : Hid (∀ j : Nat, j < 4 → t.from j = t.at j + t.from (j + 1 : Nat)) := ea
  have HZ : Hid (∀ j : Int, 4 ≤ j → t.from j = 0) := t.from_end
  have HB : Hid (∀ k, 0 ≤ t.from k ∧ t.from k ≤ 4 * 1152921504606846976) := hbd
  have HM : Hid ((if k < 0 then 0 else k) = m) := hm
  clear hbd ht ea
  go_enter Try.func13, Try.ntmps13
  go_upto_region 2 with fail
  refine wp_letter (fun wx => ∃ g, w.heap.size = g ∧ Blk wx g 24 t.f ∧ Below w.heap.size w wx) ⟨_, rfl, Blk.fresh _ _ _, below_alloc (Below.refl _ _) _⟩ ?_
  rintro W ⟨g, eg, bg, hW⟩
  rw [eg]
  clear eg
  go_upto_region 3 with fail
  go_loopw [5, 6] (fun s i wr => ∃ j : Int, m ≤ j ∧ j ≤ 9223372036854775807 ∧ i = .int .i64 j ∧ s = .int .i64 (F - t.from j) ∧ wr = W) (fun _ i _ => (4 - intOf i).toNat)
  case atStart => exact ⟨m, by omega, by omega, rfl, by rw [hFm.out]; simp, rfl⟩
  case round =>
  obtain ⟨j, hj, hj1, rfl, rfl, rfl⟩ := hrel
  by_cases hlt : j < 4
  · obtain ⟨n, rfl⟩ : ∃ n : Nat, j = n := ⟨j.toNat, by omega⟩
    have b1 := HB.out n
    have b2 := HB.out (n + 1 : Nat)
    have e1 := HE.out n (by omega)
    rw [e1] at b1 ⊢
    have hc : wr.cell? ⟨g, n, none⟩ = some (.int .i64 (t.at n)) := bg.cell n _ (by rcases (show n = 0 ∨ n = 1 ∨ n = 2 ∨ n = 3 by omega) with rfl | rfl | rfl | rfl <;> rfl)
    have e2 : F - (t.at n + t.from (n + 1 : Nat)) + t.at n = F - t.from (n + 1 : Nat) := by omega
    generalize t.at n = C at *
    obtain ⟨R, hR⟩ : ∃ R, t.from (n + 1 : Nat) = R := ⟨_, rfl⟩
    rw [hR] at b1 b2 e2 ⊢
    have HR : Hid (t.from (n + 1 : Nat) = R) := hR
    clear hR e1
    go_wp2
    go_roundw
    case rel => exact ⟨(n + 1 : Nat), by omega, by omega, by go_num, by rw [HR.out], True.intro⟩
    case measure => simp [intOf]; omega
  · have e := HZ.out j (by omega)
    rw [e, Int.sub_zero]
    go_wp2
    go_ret
    exact ⟨rfl, hW⟩

theorem within1_any (most n : Int) (w : World) : Calls Try.prog 18 #[.int .i64 most, .int .i64 n] w fun e w' => e = .returned (.bool (decide (0 ≤ n ∧ n ≤ most))) ∧ w' = w := by
  by_cases h0 : 0 ≤ n
  · by_cases h1 : n ≤ most
    · have e : decide (0 ≤ n ∧ n ≤ most) = true := decide_eq_true ⟨h0, h1⟩
      rw [e]
      go_enter Try.func18, Try.ntmps18
      go_wp2
      go_ret
      exact ⟨rfl, rfl⟩
    · have e : decide (0 ≤ n ∧ n ≤ most) = false := decide_eq_false (fun h => h1 h.2)
      rw [e]
      go_enter Try.func18, Try.ntmps18
      go_wp2
      go_ret
      exact ⟨rfl, rfl⟩
  · have e : decide (0 ≤ n ∧ n ≤ most) = false := decide_eq_false (fun h => h0 h.1)
    rw [e]
    go_enter Try.func18, Try.ntmps18
    go_wp2
    go_ret
    exact ⟨rfl, rfl⟩

theorem mayBe_any (a b p : Int) (w : World) : Calls Try.prog 16 #[.int .i64 a, .int .i64 b, .int .i64 p] w fun e w' => e = .returned (.bool (mayR a b p)) ∧ w' = w := by
  unfold mayR
  generalize ea : decide (0 ≤ a ∧ a ≤ 1099511627776) = A
  generalize eb : decide (0 ≤ b ∧ b ≤ 1099511627776) = B
  generalize ep : decide (0 ≤ p ∧ p ≤ 100000) = D
  have EA : Hid (decide (0 ≤ a ∧ a ≤ 1099511627776) = A) := ea
  have EB : Hid (decide (0 ≤ b ∧ b ≤ 1099511627776) = B) := eb
  have ED : Hid (decide (0 ≤ p ∧ p ≤ 100000) = D) := ep
  clear ea eb ep
  cases A <;> cases B <;>
  · go_enter Try.func16, Try.ntmps16
    go_wp2_with (go_at_call 18; refine (within1_any _ _ _).mono ?_; rintro e wq ⟨rfl, hq⟩; have hq := hq.symm; subst hq; first | rw [EA.out] | rw [EB.out] | rw [ED.out])
    go_ret
    exact ⟨rfl, rfl⟩
set_option maxHeartbeats 1000000 in
theorem atLeast_any (a b p : Int) (w : World) : Calls Try.prog 7 #[.int .i64 a, .int .i64 b, .int .i64 p] w fun e w' => e = .returned (.bool (atLeastP a b p)) ∧ w' = w := by
  unfold atLeastP
  cases hm : mayR a b p with
  | false =>
    have HM : Hid (mayR a b p = false) := hm
    clear hm
    go_enter Try.func7, Try.ntmps7
    go_wp2_with (go_at_call 16; refine (mayBe_any _ _ _ _).mono ?_; rintro e wq ⟨rfl, hq⟩; have hq := hq.symm; subst hq; rw [HM.out])
    go_ret
    exact ⟨rfl, rfl⟩
  | true =>
    have HM : Hid (mayR a b p = true) := hm
    unfold mayR at hm
    simp only [Bool.and_eq_true, decide_eq_true_eq] at hm
    obtain ⟨⟨⟨a0, a1⟩, b0, b1⟩, p0, p1⟩ := hm
    have m0 : 0 ≤ b * p := Int.mul_nonneg b0 p0
    have m1 : b * p ≤ 109951162777600000 := by
      have h1 : b * p ≤ 1099511627776 * p := Int.mul_le_mul_of_nonneg_right b1 p0
      omega
    go_enter Try.func7, Try.ntmps7
    go_wp2_with (go_at_call 16; refine (mayBe_any _ _ _ _).mono ?_; rintro e wq ⟨rfl, hq⟩; have hq := hq.symm; subst hq; rw [HM.out])
    go_ret
    exact ⟨ret_bool (by simp), rfl⟩
set_option maxHeartbeats 1000000 in
theorem atMost_any (a b p : Int) (w : World) : Calls Try.prog 8 #[.int .i64 a, .int .i64 b, .int .i64 p] w fun e w' => e = .returned (.bool (atMostP a b p)) ∧ w' = w := by
  unfold atMostP
  cases hm : mayR a b p with
  | false =>
    have HM : Hid (mayR a b p = false) := hm
    clear hm
    go_enter Try.func8, Try.ntmps8
    go_wp2_with (go_at_call 16; refine (mayBe_any _ _ _ _).mono ?_; rintro e wq ⟨rfl, hq⟩; have hq := hq.symm; subst hq; rw [HM.out])
    go_ret
    exact ⟨rfl, rfl⟩
  | true =>
    have HM : Hid (mayR a b p = true) := hm
    unfold mayR at hm
    simp only [Bool.and_eq_true, decide_eq_true_eq] at hm
    obtain ⟨⟨⟨a0, a1⟩, b0, b1⟩, p0, p1⟩ := hm
    have m0 : 0 ≤ b * p := Int.mul_nonneg b0 p0
    have m1 : b * p ≤ 109951162777600000 := by
      have h1 : b * p ≤ 1099511627776 * p := Int.mul_le_mul_of_nonneg_right b1 p0
      omega
    go_enter Try.func8, Try.ntmps8
    go_wp2_with (go_at_call 16; refine (mayBe_any _ _ _ _).mono ?_; rintro e wq ⟨rfl, hq⟩; have hq := hq.symm; subst hq; rw [HM.out])
    go_ret
    exact ⟨ret_bool (by simp), rfl⟩
theorem ball_any (t : BkT) (ht : t.Bd 1152921504606846976) (w : World) :
    Calls Try.prog 14 #[t.v] w fun e w' => e = .returned (.int .i64 t.all) ∧ Below w.heap.size w w' := by
  have e0 := t.from_zero 0 (by omega)
  rw [← e0]
  have FR : Hid (∀ wx : World, Calls Try.prog 13 #[t.v, .int .i64 0] wx fun e w' => e = .returned (.int .i64 (t.from 0)) ∧ Below wx.heap.size wx w') := from_any t 0 ht (by omega) (by omega)
  clear e0 ht
  obtain ⟨F, hF⟩ : ∃ F, t.from 0 = F := ⟨_, rfl⟩
  rw [hF] at FR ⊢
  clear hF
  unfold BkT.v at FR ⊢
  go_enter Try.func14, Try.ntmps14
  go_wp2_with (go_at_call 13; refine (FR.out _).mono ?_; rintro e w1 ⟨rfl, d1⟩)
  go_ret
  exact ⟨rfl, below_then (below_alloc (Below.refl _ _) _) d1⟩

set_option maxHeartbeats 2000000 in
theorem lof_any (v : Value) (xs : List LoanP) (w : World) (h : Lies 5 LoanP.f w v xs) (hA : ∀ x ∈ xs, 0 ≤ x.bal ∧ x.bal ≤ 1099511627776) (hl : xs.length ≤ 1000) :
    Calls Try.prog 9 #[v] w fun e w' => e = .returned (bkts xs).v ∧ Below w.heap.size w w' := by
  obtain ⟨V, hV⟩ : ∃ V, (bkts xs).v = V := ⟨_, rfl⟩
  rw [hV]
  have HV : Hid ((bkts xs).v = V) := hV
  clear hV
  have HL := h
  obtain ⟨a, cap, rfl, _, hcm, _, _⟩ := h
  obtain ⟨n, hn⟩ : ∃ n, xs.length = n := ⟨_, rfl⟩
  have hlen := HL.len
  rw [hn] at HL hl hlen ⊢
  have H2 : Hid (Lies 5 LoanP.f w (.slice a n cap) xs) := HL
  have H3 : Hid (∀ x ∈ xs, 0 ≤ x.bal ∧ x.bal ≤ 1099511627776) := hA
  have H4 : Hid (xs.take n = xs) := by show _ = _; rw [← hn]; exact List.take_length
  clear HL hA hcm hlen hn
  go_enter Try.func9, Try.ntmps9
  go_upto_region 2 with fail
  refine wp_letter (fun wx => Below w.heap.size w wx ∧ ∃ g h, w.heap.size = g ∧ g + 1 = h ∧ Blk wx g 24 BkT.zero.f ∧ Blk wx h 24 BkT.zero.f) ⟨below_alloc (below_alloc (Below.refl _ _) _) _, _, _, rfl, rfl, (Blk.fresh _ _ _).alloc _, Blk.fresh2 _ _ _ _⟩ ?_
  rintro W ⟨hW, g, h, hg, hh, k1, k2⟩
  have hh2 : w.heap.size ≤ h := by omega
  have hgh : g ≠ h := by omega
  rw [hg, hh]
  go_wp2
  go_loopw [8] (fun i wr => ∃ (k : Nat) (S : BkT), k ≤ n ∧ i = .int .i64 k ∧ bkts (xs.take k) = S ∧ Below w.heap.size w wr ∧ Blk wr g 24 BkT.zero.f ∧ Blk wr h 24 S.f) (fun i _ => n - (intOf i).toNat)
  case atStart => exact ⟨0, _, Nat.zero_le _, rfl, rfl, hW, k1, k2⟩
  case round =>
  obtain ⟨k, S, hk, rfl, eS, hB, b1, b2⟩ := hrel
  by_cases hlt : k < n
  · obtain ⟨b, off, x, rfl, hx, hmem, c0, c1, c2, c3, c4⟩ := H2.out.loan k hlt
    replace c0 := cell_keep hB c0
    replace c1 := cell_keep hB c1
    replace c2 := cell_keep hB c2
    replace c3 := cell_keep hB c3
    replace c4 := cell_keep hB c4
    have n1 := bkts_next xs k x hx
    rw [eS] at n1
    have N1 : Hid (bkts (xs.take (k + 1)) = S.plus x.bk) := n1
    have bS := bkts_bd (xs := xs.take k) (fun y hy => H3.out y (List.mem_of_mem_take hy)) 1000 (by rw [List.length_take]; omega) (by omega)
    rw [eS] at bS
    obtain ⟨sa, sb, sc, sd⟩ := S
    obtain ⟨s1, s2, s3, s4, s5, s6, s7, s8⟩ := bS
    simp only at s1 s2 s3 s4 s5 s6 s7 s8
    have bX := H3.out x hmem
    obtain ⟨id, bal, lost, late, over⟩ := x
    simp only at bX c0 c1 c2 c3 c4
    clear n1 eS hx hmem
    go_upto_region 5 with fail
    refine wp_letter (fun wx => Below w.heap.size w wx ∧ Blk wx g 24 BkT.zero.f ∧ Blk wx h 24 (BkT.f ⟨sa, sb, sc, sd⟩) ∧ ∃ Q, wr.heap.size = Q ∧ h < Q ∧ Blk wx Q 29 (LoanP.f ⟨id, bal, lost, late, over⟩)) ⟨below_alloc hB _, b1.alloc _, b2.alloc _, _, rfl, b2.lt, Blk.fresh _ _ _⟩ ?_
    clear hB b1 b2 c0 c1 c2 c3 c4
    rintro X ⟨hX, b1, b2, Q, eQ, hQ, b3⟩
    rw [eQ]
    clear eQ
    have x1 := b3.cell 1 _ rfl; have x3 := b3.cell 3 _ rfl
    have y0 := b2.cell 0 _ rfl; have y1 := b2.cell 1 _ rfl; have y2 := b2.cell 2 _ rfl; have y3 := b2.cell 3 _ rfl
    have f0 := b2.frozen 0; have f1 := b2.frozen 1; have f2 := b2.frozen 2; have f3 := b2.frozen 3
    rcases bk_cases id bal lost late over sa sb sc sd with ⟨eb, ep⟩ | ⟨eb, ep⟩ | ⟨eb, ep⟩ | ⟨eb, ep⟩
    all_goals
      have EB : Hid (bkI late = _) := eb
      have EP : Hid (bkts (xs.take (k + 1)) = _) := N1.out.trans ep
      clear eb ep N1
      go_region_with (go_at_call 17; refine (bucket_any late _).mono ?_; rintro e w1 ⟨rfl, hq⟩; have hq := hq.symm; subst hq; rw [EB.out])
    all_goals
      first
        | (have wr1 := wrap_in (sa + bal) (by omega) (by omega); rw [wr1])
        | (have wr1 := wrap_in (sb + bal) (by omega) (by omega); rw [wr1])
        | (have wr1 := wrap_in (sc + bal) (by omega) (by omega); rw [wr1])
        | (have wr1 := wrap_in (sd + bal) (by omega) (by omega); rw [wr1])
      go_wp2
      go_roundw
      case rel => exact ⟨k + 1, _, by omega, by go_num, EP.out, (hX.setCell hh2 _).drew, (b1.set_other _ _ hgh _).drew, (b2.set _ _).drew⟩
      case measure => simp [intOf]; omega
  · obtain rfl : k = n := by omega
    rw [H4.out] at eS
    subst eS
    have y0 := b2.cell 0 _ rfl; have y1 := b2.cell 1 _ rfl; have y2 := b2.cell 2 _ rfl; have y3 := b2.cell 3 _ rfl
    have f0 := b1.frozen 0; have f1 := b1.frozen 1; have f2 := b1.frozen 2; have f3 := b1.frozen 3
    have z0 := b1.cell 0 _ rfl; have z1 := b1.cell 1 _ rfl; have z2 := b1.cell 2 _ rfl; have z3 := b1.cell 3 _ rfl
    go_wp2
    refine post_letter (fun wx => Below w.heap.size w wx ∧ Blk wx g 24 (bkts xs).f) ⟨(((hB.setCell (Nat.le_of_eq hg) _).setCell (Nat.le_of_eq hg) _).setCell (Nat.le_of_eq hg) _).setCell (Nat.le_of_eq hg) _, (((b1.set 0 _).set 1 _).set 2 _).set 3 _⟩ ?_
    clear hB b1 b2 y0 y1 y2 y3 f0 f1 f2 f3 z0 z1 z2 z3
    rintro X ⟨hX, b3⟩
    have y0 := b3.cell 0 _ rfl; have y1 := b3.cell 1 _ rfl; have y2 := b3.cell 2 _ rfl; have y3 := b3.cell 3 _ rfl
    rw [← HV.out]
    exact bodyPost_ret (v := (bkts xs).v) (by simp [results, Try.results9, go_sem, y0, y1, y2, y3, BkT.v]) rfl ⟨rfl, hX⟩
end Go.Proofs.Ytbppaomenhdjeaa
