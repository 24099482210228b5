/-
  The walk of LateMoves.
-/
import Derived.Test.YtbppaomenhdjeaaMoveP
namespace Go.Proofs.Ytbppaomenhdjeaa
open Go.RowKit

theorem mvd_next (X Y : BkT) (j : Nat) : mvd X Y (j + 1) = if 0 < Y.at j - X.at j then mvd X Y j + (Y.at j - X.at j) else mvd X Y j := rfl
/-- Of, at whatever world grew out of W. -/
theorem lof_k {v : Value} {xs : List LoanP} {X : BkT} {W : World} (e : bkts xs = X) (h : Lies 5 LoanP.f W v xs) (ha : ∀ x ∈ xs, 0 ≤ x.bal ∧ x.bal ≤ 1099511627776) (hl : xs.length ≤ 1000) : ∀ (w : World) (R : Ending → World → Prop), Below W.heap.size W w → (∀ w', Below w.heap.size w w' → R (.returned (.agg #[.int .i64 X.a, .int .i64 X.b, .int .i64 X.c, .int .i64 X.d])) w') → Calls Try.prog 9 #[v] w R := fun _ _ hb k => lof_e e (h.below hb) ha hl k
set_option maxRecDepth 1000000 in
set_option maxHeartbeats 16000000 in
theorem lateMoves_any (v0 v1 : Value) (bs ms : List Int) (at0 : Int) (w : World) (h0 : Lies 1 intF w v0 bs) (h1 : Lies 1 intF w v1 ms) :
    Calls Try.prog 6 #[v0, v1, .int .i64 at0] w fun e w' => e = .returned (.bool true) ∧ Below w.heap.size w w' := by
  obtain ⟨i0, hi, hz0, hz1, hz2⟩ := info_parts Try.info_loan
  obtain ⟨a0, c0, rfl, _, _, _, _⟩ := id h0
  obtain ⟨a1, c1, rfl, _, _, _, _⟩ := id h1
  have hl0 := h0.len
  have hl1 := h1.len
  unfold maxLen at hl0 hl1
  obtain ⟨n0, hn0⟩ : ∃ n, bs.length = n := ⟨_, rfl⟩
  obtain ⟨n1, hn1⟩ : ∃ n, ms.length = n := ⟨_, rfl⟩
  rw [hn0] at h0 hl0 ⊢
  rw [hn1] at h1 hl1 ⊢
  obtain ⟨gl, hg⟩ : ∃ g, mkL 1073741824 11 bs ms = g := ⟨_, rfl⟩
  have HG : Hid (∀ i, 0 + bs.getD i 0 % (1073741824 - 0 + 1) = (gl i).bal ∧ (i < n1 → 0 + ms.getD i 0 % (11 - 0 + 1) = (gl i).late) ∧ (¬ i < n1 → (gl i).late = 0) ∧ gl i = ⟨0, (gl i).bal, 0, (gl i).late, false⟩) := by
    intro i
    subst hg
    refine ⟨rfl, fun h => ?_, fun h => ?_, rfl⟩
    · unfold mkL; simp only; rw [if_pos (by omega)]
    · unfold mkL; simp only; rw [if_neg (by omega)]
  have HGB : Hid (∀ i, 0 ≤ (gl i).bal ∧ (gl i).bal ≤ 1073741824) := by subst hg; exact mkL_bal (by omega)
  have HGL : Hid (∀ i, 0 ≤ (gl i).late ∧ (gl i).late ≤ 11) := by subst hg; exact mkL_late (by omega)
  have H0 : Hid (Lies 1 intF w (.slice a0 n0 c0) bs) := h0
  have H1 : Hid (Lies 1 intF w (.slice a1 n1 c1) ms) := h1
  have hm0 : n0 ≤ 9223372036854775807 := by omega
  have hm1 : n1 ≤ 9223372036854775807 := by omega
  clear h0 h1 hg hn0 hn1 hl0 hl1
  obtain ⟨n, hn⟩ : ∃ n, Nat.min n0 20 = n := ⟨_, rfl⟩
  have hnn : n ≤ n0 ∧ n ≤ 20 ∧ (n = n0 ∨ n = 20) := by rw [← hn]; show min n0 20 ≤ n0 ∧ min n0 20 ≤ 20 ∧ (min n0 20 = n0 ∨ min n0 20 = 20); omega
  clear hn
  go_enter Try.func6, Try.ntmps6
  go_wp2
  go_loopw [7, 8] (fun v i wr => ∃ k : Nat, k ≤ n ∧ i = .int .i64 k ∧ Below w.heap.size w wr ∧ wr.ownsRow w.heap.size 29 5 v k ((mkLs gl k).flatMap LoanP.f)) (fun _ i _ => n - (intOf i).toNat)
  case atStart => exact ⟨0, Nat.zero_le _, rfl, Below.refl _ _, World.ownsRow_nil _ _ _ _⟩
  case round =>
  obtain ⟨j, hj, rfl, hBw, hO⟩ := hrel
  have HT : Hid (wr.ownsRow w.heap.size 29 5 u7 j ((mkLs gl j).flatMap LoanP.f)) := hO
  clear hO
  go_upto_region 3 with fail
  go_cut [26] (fun c wx => c = .bool (decide (j < n)) ∧ wx = wr)
  case first =>
    by_cases q1 : j < n0
    · by_cases q2 : j < 20
      · have e : decide (j < n) = true := decide_eq_true (by omega)
        go_wp2
        go_meet
        case rel => exact ⟨by rw [e]; try (congr 1; simp; omega), by simp⟩
      · have e : decide (j < n) = false := decide_eq_false (by omega)
        go_wp2
        go_meet
        case rel => exact ⟨by rw [e]; try (congr 1; simp; omega), by simp⟩
    · have e : decide (j < n) = false := decide_eq_false (by omega)
      go_wp2
      go_meet
      case rel => exact ⟨by rw [e]; try (congr 1; simp; omega), by simp⟩
  case rest =>
  obtain ⟨rfl, hw⟩ := hcut
  have hw := hw.symm
  subst hw
  by_cases hlt : j < n
  · rw [decide_eq_true hlt]
    obtain ⟨b0, o0, rfl, cb⟩ := H0.out.int1 j (by omega)
    replace cb := cell_keep hBw cb
    have HB := HGB.out j
    have HL := HGL.out j
    obtain ⟨EB, EM1, EM2, EG⟩ := HG.out j
    obtain ⟨B, hB⟩ : ∃ B, (gl j).bal = B := ⟨_, rfl⟩
    obtain ⟨M, hM⟩ : ∃ M, (gl j).late = M := ⟨_, rfl⟩
    rw [hB] at HB EB EG
    rw [hM] at HL EM1 EM2 EG
    obtain ⟨z, hz⟩ : ∃ z, bs.getD j 0 = z := ⟨_, rfl⟩
    rw [hz] at cb EB
    obtain ⟨y, hy⟩ : ∃ z, ms.getD j 0 = z := ⟨_, rfl⟩
    rw [hy] at EM1
    have HY : Hid (ms.getD j 0 = y) := hy
    clear hz hy
    have EB : Hid (0 + z % (1073741824 - 0 + 1) = B) := EB
    have EG : Hid (gl j = ⟨0, B, 0, M, false⟩) := EG
    have EM1 : Hid (j < n1 → 0 + y % (11 - 0 + 1) = M) := EM1
    have EM2 : Hid (¬ j < n1 → M = 0) := EM2
    clear hB hM
    go_upto_region 6 with fail
    go_upto_if 32 with fail
    go_cut [9] (fun s wx => s = .int .i64 M ∧ wx = wr)
    case first =>
      by_cases q1 : j < n1
      · obtain ⟨b1, o1, rfl, cm⟩ := H1.out.int1 j q1
        rw [HY.out] at cm
        replace cm := cell_keep hBw cm
        go_wp2_with (go_at_call_of 11 (y); refine (within_any _ _ _ (by omega) (by omega) (by omega) (by omega) _).mono ?_; rintro e wq ⟨rfl, hq⟩; have hq := hq.symm; subst hq; rw [(EM1.out q1)])
        go_meet
        case rel => exact ⟨rfl, by simp⟩
      · go_wp2
        go_meet
        case rel => exact ⟨by rw [EM2.out q1], by simp⟩
    case rest =>
    obtain ⟨rfl, hw⟩ := hcut
    have hw := hw.symm
    subst hw
    have OW : Hid (∀ wz, Below wr.heap.size wr wz → (wz.alloc (.cells #[.int .i64 0, .int .i64 B, .int .i64 0, .int .i64 M, .bool false] 29)).ownsRow w.heap.size 29 5 u7 j ((mkLs gl j).flatMap LoanP.f) ∧ Src (wz.alloc (.cells #[.int .i64 0, .int .i64 B, .int .i64 0, .int .i64 M, .bool false] 29)) (.slice (some ⟨wz.heap.size, 0, none⟩) 1 1) 1 (LoanP.f ⟨0, B, 0, M, false⟩) ∧ w.heap.size ≤ (wz.alloc (.cells #[.int .i64 0, .int .i64 B, .int .i64 0, .int .i64 M, .bool false] 29)).heap.size) := fun wz hb =>
      ⟨(own_below HT.out hb).alloc _, src_new wz _ 1 _, (below_alloc (below_then hBw hb) _).size⟩
    go_upto_region 4 with (first
      | (go_at_call_of 11 (z); refine (within_any _ _ _ (by omega) (by omega) (by omega) (by omega) _).mono ?_; rintro e wq ⟨rfl, hq⟩; have hq := hq.symm; subst hq; rw [(EB.out)])
      | (go_at_call 10; refine (mkLoan_any _ _ _).mono ?_; rintro e w1 ⟨rfl, d1⟩; unfold LoanP.v)
      | (refine wpList_append_src rfl (.tmp 38) (.tmp 46) 33 rfl w.heap.size 29 i0 (.agg #[.int .i64 0, .int .i64 0, .int .i64 0, .int .i64 0, .bool false]) 5 40 Try.underlying33 hi hz0 hz1 hz2 rfl (by decide) u7 j ((mkLs gl j).flatMap LoanP.f) rfl (OW.out w1 d1).1 (.slice (some ⟨w1.heap.size, 0, none⟩) 1 1) 1 (LoanP.f ⟨0, B, 0, M, false⟩) rfl (OW.out w1 d1).2.1 rfl (LoanP.one _) (by unfold maxLen; omega) (by omega) (OW.out w1 d1).2.2 ?_; intro v' w2 ow gr _))
    have hB2 := below_grown (below_alloc (below_then hBw d1) (.cells #[.int .i64 0, .int .i64 B, .int .i64 0, .int .i64 M, .bool false] 29)) gr (fun k e => (HT.out.lt k e).1)
    have HT3 : Hid (w2.ownsRow w.heap.size 29 5 v' (j + 1) ((mkLs gl (j + 1)).flatMap LoanP.f)) := by
      have h : w2.ownsRow w.heap.size 29 5 v' (j + 1) ((mkLs gl j).flatMap LoanP.f ++ (gl j).f) := by rw [EG.out]; exact ow
      show World.ownsRow _ _ _ _ _ _ _
      rw [mkLs_next]
      exact own_more _ h
    clear ow gr OW HT hBw d1 cb
    go_wp2
    go_roundw
    case rel => exact ⟨j + 1, by omega, by go_num, hB2, HT3.out⟩
    case measure => simp [intOf]; omega
  · obtain rfl : n = j := by omega
    rw [decide_eq_false hlt]
    obtain ⟨wl, hwl⟩ : ∃ wl, wl = wr := ⟨_, rfl⟩
    subst hwl
    have hO := HT.out
    obtain ⟨xs, hxs⟩ : ∃ xs, mkLs gl n = xs := ⟨_, rfl⟩
    have hN : xs.length = n := by rw [← hxs]; exact mkLs_len gl n
    have hlies := own_lies LoanP.len hO (mkLs_len gl n)
    have hA : ∀ x ∈ xs, 0 ≤ x.bal ∧ x.bal ≤ 1073741824 := by rw [← hxs]; exact mkLs_mem HGB.out
    have HXS : Hid (∀ i, i < n → ∃ b m, xs[i]? = some ⟨0, b, 0, m, false⟩ ∧ 0 ≤ b ∧ b ≤ 1073741824 ∧ 0 ≤ m ∧ m ≤ 11) := fun i h => by
      have e := (HG.out i).2.2.2
      rw [← hxs]
      refine ⟨(gl i).bal, (gl i).late, ?_, (HGB.out i).1, (HGB.out i).2, (HGL.out i).1, (HGL.out i).2⟩
      rw [mkLs_at gl n i h, ← e]
    rw [hxs] at hlies
    clear hxs HT HG HGB HGL hlt hO
    obtain ⟨a, cap, rfl, _, hcm, hz, _⟩ := id hlies
    rw [hN] at hlies ⊢
    unfold maxLen at hcm
    have hm : n ≤ 9223372036854775807 := by omega
    have HL : Hid (Lies 5 LoanP.f wl (.slice a n cap) xs) := hlies
    have HN : Hid (xs.length = n) := hN
    have HA : Hid (∀ x ∈ xs, 0 ≤ x.bal ∧ x.bal ≤ 1073741824) := hA
    have HA40 : Hid (∀ x ∈ xs, 0 ≤ x.bal ∧ x.bal ≤ 1099511627776) := fun x hx => ⟨(hA x hx).1, by have := (hA x hx).2; omega⟩
    obtain ⟨X, eX⟩ : ∃ X, bkts xs = X := ⟨_, rfl⟩
    have EX : Hid (bkts xs = X) := eX
    have hX : X.Bd (20 * 1073741824) := by rw [← eX]; exact bkts_bd hA 20 (by omega) (by omega)
    have HX : Hid (X.Bd (20 * 1073741824)) := hX
    have P1 : Hid (_) := lof_k EX.out HL.out HA40.out (by omega)
    clear hz hlies hA eX hX
    have hB : Below wl.heap.size wl wl := Below.refl _ _
    go_upto_region 10 with (with_reducible refine P1.out _ _ hB (fun wl2 bn => ?_); replace hB := below_then hB bn)
    refine wp_letter (fun wx => ∃ gx, wl2.heap.size = gx ∧ Blk wx gx 24 X.f ∧ Below wl.heap.size wl wx) ⟨_, rfl, Blk.fresh _ _ _, below_alloc hB _⟩ ?_
    clear hB bn P1
    rintro W1 ⟨gx, eg, kx, hB1⟩
    rw [eg]
    clear eg
    have bW1 := below_then hBw hB1
    have HL1 : Hid (Lies 5 LoanP.f W1 (.slice a n cap) xs) := HL.out.below hB1
    clear HL hB1 hBw
    go_upto_if 52 with fail
    go_cut [] (fun wx => Below W1.heap.size W1 wx)
    case first =>
      by_cases hn0 : 0 < n
      · obtain ⟨kn, hkn⟩ := Int.eq_ofNat_of_zero_le (Int.emod_nonneg at0 (b := (n : Int) - 1 - 0 + 1) (by omega))
        have hkl : kn < n := by
          have := Int.emod_lt_of_pos at0 (b := (n : Int) - 1 - 0 + 1) (by omega)
          omega
        have E1 : Hid (0 + at0 % ((n : Int) - 1 - 0 + 1) = (kn : Int)) := by show _ = _; omega
        clear hkn
        go_upto_region 12 with (go_at_call_of 11 (at0); refine (within_any _ _ _ (by omega) (by omega) (by omega) (by omega) _).mono ?_; rintro e wq ⟨rfl, hq⟩; have hq := hq.symm; subst hq; rw [(E1.out)])
        have O0 : Hid ((W1.alloc (.cells #[] 29)).ownsRow W1.heap.size 29 5 (.slice (some ⟨W1.heap.size, 0, none⟩) 0 0) 0 []) := World.ownsRow_lit (base := W1.heap.size) (size := 5) W1 #[] 0 (Nat.le_refl _) (by unfold maxLen; omega) rfl
        have B0 : Hid (Below W1.heap.size W1 (W1.alloc (.cells #[] 29))) := (Below.refl _ _).alloc (Nat.le_refl _) _
        have SX : Hid (Src (W1.alloc (.cells #[] 29)) (.slice a n cap) n (xs.flatMap LoanP.f)) := by
          have := (HL1.out.below B0.out).src LoanP.len (by omega)
          rw [HN.out] at this
          exact this
        have SL : Hid ((xs.flatMap LoanP.f).length = n * 5) := by show _ = _; rw [flat_length LoanP.len, HN.out]
        go_upto_region 13 with (at_builtin; refine wpList_append_src rfl (.tmp 58) (.tmp 59) 33 rfl W1.heap.size 29 i0 (.agg #[.int .i64 0, .int .i64 0, .int .i64 0, .int .i64 0, .bool false]) 5 40 Try.underlying33 hi hz0 hz1 hz2 rfl (by decide) (.slice (some ⟨W1.heap.size, 0, none⟩) 0 0) 0 [] rfl O0.out (.slice a n cap) n (xs.flatMap LoanP.f) rfl SX.out SL.out (flat_one LoanP.one) (by unfold maxLen; omega) (by omega) B0.out.size ?_; intro v5 w5 o5 g5 l5; have B5 : Hid (Below W1.heap.size W1 w5) := (below_grown B0.out g5 (fun k h => by simp [Value.ownBlock] at h; omega)); have O5 : Hid (w5.ownsRow W1.heap.size 29 5 v5 n (xs.flatMap LoanP.f)) := (by have := o5; rw [Nat.zero_add, List.nil_append] at this; exact this); clear o5 g5 l5)
        clear O0 B0 SX SL
        have hB := B5.out
        have O6 := O5.out
        clear B5 O5
        obtain ⟨go, cp, e5, hg, hcp⟩ : ∃ g cp, v5 = .slice (some ⟨g, 0, none⟩) n cp ∧ W1.heap.size ≤ g ∧ n ≤ cp := by
          rcases O6.2 with ⟨_, h2⟩ | ⟨g, cp, cur, h1, h2, _, h3, _⟩
          · exact absurd h2 (by omega)
          · exact ⟨g, cp, h1, h2, h3⟩
        subst e5
        have HO : Hid (w5.ownsRow W1.heap.size 29 5 (.slice (some ⟨go, 0, none⟩) n cp) n (xs.flatMap LoanP.f)) := O6
        obtain ⟨b, m, hx, hb0, hb1, hm0, hm1⟩ := HXS.out kn hkl
        have HXK : Hid (xs[kn]? = some ⟨0, b, 0, m, false⟩) := hx
        have y3 : w5.cell? ⟨go, kn * 5 + 3, none⟩ = some (.int .i64 m) := own_at O6 HN.out hx (j := 3) rfl
        have f3 : w5.frozen? ⟨go, kn * 5 + 3, none⟩ = false := O6.frozenAt (kn * 5 + 3)
        clear O6 hx HXS
        go_upto_region 14 with fail
        refine wp_letter (fun wx => Below W1.heap.size W1 wx ∧ wx.ownsRow W1.heap.size 29 5 (.slice (some ⟨go, 0, none⟩) n cp) n ((xs.set kn ⟨0, b, 0, m + 1, false⟩).flatMap LoanP.f)) ⟨hB.setCell hg _, own_turn HO.out HXK.out rfl (by omega)⟩ ?_
        clear hB HO y3 f3
        rintro W2 ⟨hB2, O2⟩
        obtain ⟨ys, hys⟩ : ∃ ys, xs.set kn ⟨0, b, 0, m + 1, false⟩ = ys := ⟨_, rfl⟩
        rw [hys] at O2
        have hYN : ys.length = n := by rw [← hys, List.length_set]; exact HN.out
        have L2 := own_lies LoanP.len O2 hYN
        have hYA : ∀ x ∈ ys, 0 ≤ x.bal ∧ x.bal ≤ 1073741824 := by rw [← hys]; exact set_ok kn _ HA.out ⟨hb0, hb1⟩
        obtain ⟨Y, eY⟩ : ∃ Y, bkts ys = Y := ⟨_, rfl⟩
        have EY : Hid (bkts ys = Y) := eY
        have MV : Hid (Moved X Y b) := by
          have := moved_of xs kn b m HXK.out hm0
          rw [hys, EX.out, eY] at this
          exact this
        have HY : Hid (Y.Bd (20 * 1073741824)) := by
          rw [← eY]
          exact bkts_bd hYA 20 (by omega) (by omega)
        have P2 : Hid (_) := lof_k EY.out L2 (fun x hx => ⟨(hYA x hx).1, by have := (hYA x hx).2; omega⟩) (by omega)
        have HYS : Hid (xs.set kn ⟨0, b, 0, m + 1, false⟩ = ys) := hys
        have HYN : Hid (ys.length = n) := hYN
        have O2 : Hid (_) := O2
        have hB : Below W2.heap.size W2 W2 := Below.refl _ _
        clear hys eY L2 hYA hYN
        go_upto_region 15 with (with_reducible refine P2.out _ _ hB (fun wl2 bn => ?_); replace hB := below_then hB bn)
        refine wp_letter (fun wx => ∃ gy, wl2.heap.size = gy ∧ Blk wx gy 24 Y.f ∧ Below W2.heap.size W2 wx) ⟨_, rfl, Blk.fresh _ _ _, below_alloc hB _⟩ ?_
        clear hB bn P2
        rintro W3 ⟨gy, eg, ky, hB3⟩
        rw [eg]
        clear eg
        have bW3 : Below W1.heap.size W1 W3 := below_then hB2 hB3
        have kx3 := kx.then bW3
        have O3 : Hid (_) := own_below O2.out hB3
        clear O2 hB2 hB3
        go_wp2
        go_loopw [14, 71] (fun s i wr => ∃ j : Nat, j ≤ 4 ∧ i = .int .i64 j ∧ s = .int .i64 (mvd X Y j) ∧ Below W3.heap.size W3 wr) (fun _ i _ => 4 - (intOf i).toNat)
        case atStart => exact ⟨0, by omega, rfl, rfl, Below.refl _ _⟩
        case round =>
        obtain ⟨j, hj, rfl, rfl, hB0⟩ := hrel
        by_cases hlt : j < 4
        · have cx := BkT.at_cell (kx3.then hB0) j hlt
          have cy := BkT.at_cell (ky.then hB0) j hlt
          have e1 := HX.out.at j
          have e2 := HY.out.at j
          have e3 := mvd_bd HX.out HY.out (by omega) j
          have NX := mvd_next X Y j
          obtain ⟨x, hx⟩ : ∃ y, X.at j = y := ⟨_, rfl⟩
          obtain ⟨y, hy⟩ : ∃ y, Y.at j = y := ⟨_, rfl⟩
          obtain ⟨s, hs⟩ : ∃ y, mvd X Y j = y := ⟨_, rfl⟩
          rw [hx] at cx e1 NX
          rw [hy] at cy e2 NX
          rw [hs] at e3 NX ⊢
          have e4 : (j : Int) * (20 * 1073741824) ≤ 4 * (20 * 1073741824) := by omega
          have NX : Hid (mvd X Y (j + 1) = if 0 < y - x then s + (y - x) else s) := NX
          clear hx hy hs
          go_upto_region 19 with fail
          go_quiet (fail)
          by_cases hd : 0 < y - x
          · go_wp2
            go_roundw
            case rel => exact ⟨j + 1, by omega, by go_num, by rw [NX.out, if_pos hd], below_draws hB0 _⟩
            case measure => simp [intOf]; omega
          · go_wp2
            go_roundw
            case rel => exact ⟨j + 1, by omega, by go_num, by rw [NX.out, if_neg hd], below_draws hB0 _⟩
            case measure => simp [intOf]; omega
        · obtain rfl : j = 4 := by omega
          rw [show ((4 : Nat) : Int) = 4 from rfl]
          have M4 := mvd_four MV.out hb0
          obtain ⟨D, hD⟩ : ∃ D, mvd X Y 4 = D := ⟨_, rfl⟩
          rw [hD] at M4 ⊢
          clear hD
          have bW4 := below_then bW3 hB0
          have kx4 := kx3.then hB0
          have ky4 := ky.then hB0
          have O4 : Hid (_) := own_below O3.out hB0
          have ys1 : ys[kn]? = some ⟨0, b, 0, m + 1, false⟩ := by rw [← HYS.out, List.getElem?_set_self (by rw [HN.out]; exact hkl)]
          have cb : wr.cell? ⟨go, kn * 5 + 1, none⟩ = some (.int .i64 b) := own_at O4.out HYN.out ys1 (j := 1) rfl
          have YS1 : Hid (ys[kn]? = some ⟨0, b, 0, m + 1, false⟩) := ys1
          obtain ⟨S, hS⟩ : ∃ F, X.all = F := ⟨_, rfl⟩
          have hXB := HX.out.mono (C := 1152921504606846976) (by omega)
          have hYB := HY.out.mono (C := 1152921504606846976) (by omega)
          have P3 : Hid (_) := ball_k hS hXB
          have P4 : Hid (_) := ball_k (MV.out.all.trans hS) hYB
          have HS : Hid (X.all = S) := hS
          clear hlt ys1 hS hXB hYB bW3 hB0 O3 ky kx3
          have cW : ∀ wx, Below wr.heap.size wr wx → (wx.cell? ⟨gx, 0, none⟩ = some (.int .i64 X.a) ∧ wx.cell? ⟨gx, 1, none⟩ = some (.int .i64 X.b) ∧ wx.cell? ⟨gx, 2, none⟩ = some (.int .i64 X.c) ∧ wx.cell? ⟨gx, 3, none⟩ = some (.int .i64 X.d)) ∧ (wx.cell? ⟨gy, 0, none⟩ = some (.int .i64 Y.a) ∧ wx.cell? ⟨gy, 1, none⟩ = some (.int .i64 Y.b) ∧ wx.cell? ⟨gy, 2, none⟩ = some (.int .i64 Y.c) ∧ wx.cell? ⟨gy, 3, none⟩ = some (.int .i64 Y.d)) ∧ wx.cell? ⟨go, kn * 5 + 1, none⟩ = some (.int .i64 b) := fun wx bx => by
            have hA := kx4.then bx
            have hB := ky4.then bx
            exact ⟨⟨hA.cell 0 _ rfl, hA.cell 1 _ rfl, hA.cell 2 _ rfl, hA.cell 3 _ rfl⟩, ⟨hB.cell 0 _ rfl, hB.cell 1 _ rfl, hB.cell 2 _ rfl, hB.cell 3 _ rfl⟩, cell_keep bx cb⟩
          clear cb
          go_upto_region 23 with fail
          go_cut [105] (fun c wx => c = .bool false ∧ Below wr.heap.size wr wx)
          case first =>
            as_aux_lemma =>
              by_cases hz : D = 0
              · subst hz
                refine wp_region_ps [87, 88, 89, 90, 91, 92, 93, 94, 95, 96, 97, 98, 99, 100, 101, 102, 103, 104, 105] [fun v _ => v = (.agg #[.int .i64 Y.a, .int .i64 Y.b, .int .i64 Y.c, .int .i64 Y.d] : Value), fun v _ => v = (.int .i64 S : Value), fun v _ => v = (.agg #[.int .i64 X.a, .int .i64 X.b, .int .i64 X.c, .int .i64 X.d] : Value), fun v _ => v = (.int .i64 S : Value), fun v _ => v = (.bool false : Value), fun v _ => v = (.bool false : Value), fun v _ => v = (.int .i64 0 : Value), fun v _ => v = (.bool false : Value), fun v _ => v = (.bool false : Value), fun v _ => v = (undef : Value), fun v _ => v = (undef : Value), fun v _ => v = (undef : Value), fun v _ => v = (undef : Value), fun v _ => v = (undef : Value), fun v _ => v = (undef : Value), fun v _ => v = (undef : Value), fun v _ => v = (undef : Value), fun v _ => v = (.bool false : Value), fun v _ => v = (.bool false : Value)] [] [0, 1, 2, 3, 4, 5, 6, 7, 8, 9, 10, 11, 12, 13, 14, 15, 16, 17, 18] #[true, true, true, true, true, true, true, true, true, true, true, true, true, true, true, true, true, true, true] 0 (by kernel_rfl) (by kernel_rfl) (by kernel_rfl) (by kernel_rfl) ?_ ?_ ?_
                · intro p hp
                  simp only [List.mem_cons, List.not_mem_nil, or_false] at hp
                  rcases hp with rfl | rfl | rfl | rfl | rfl | rfl | rfl | rfl | rfl | rfl | rfl | rfl | rfl | rfl | rfl | rfl | rfl | rfl | rfl <;> exact bears_is _
                · have bD : Below wr.heap.size wr wr.drew := (Below.refl _ _).drew
                  refine StepsF.cons rfl rfl (fun x wx hB hF K hK => ?_) ?_
                  · have q1 : Below wr.heap.size wr wx := below_then bD hB
                    have q2 := cW wx q1; have p0 := q2.1.1; have p1 := q2.1.2.1; have p2 := q2.1.2.2.1; have p3 := q2.1.2.2.2; have r0 := q2.2.1.1; have r1 := q2.2.1.2.1; have r2 := q2.2.1.2.2.1; have r3 := q2.2.1.2.2.2; have cb := q2.2.2; clear q2
                    simp only [acts, Act.put, List.getD_cons_zero, List.getD_cons_succ, List.setIfInBounds_toArray, List.set_cons_zero, List.set_cons_succ]
                    go_simp
                    refine hK.out _ _ (after_mk (.agg #[.int .i64 Y.a, .int .i64 Y.b, .int .i64 Y.c, .int .i64 Y.d] : Value) ?_ (Below.refl _ _) rfl (fun h => absurd h (by decide)))
                    simp only [acts, Act.put, List.getD_cons_zero, List.getD_cons_succ, List.setIfInBounds_toArray, List.set_cons_zero, List.set_cons_succ]
                  refine StepsF.cons rfl rfl (fun x wx hB hF K hK => ?_) ?_
                  · have f0 : x 0 = (.agg #[.int .i64 Y.a, .int .i64 Y.b, .int .i64 Y.c, .int .i64 Y.d] : Value) := hF 0 (by decide) (by kernel_rfl)
                    have q1 : Below wr.heap.size wr wx := below_then bD hB
                    simp only [acts, Act.put, List.getD_cons_zero, List.getD_cons_succ, List.setIfInBounds_toArray, List.set_cons_zero, List.set_cons_succ]
                    go_simp
                    try simp only [f0]
                    with_reducible refine P4.out _ _ (fun wy hb => ?_)
                    refine hK.out _ _ (after_mk (.int .i64 S : Value) ?_ hb rfl (fun h => absurd h (by decide)))
                    simp only [acts, Act.put, List.getD_cons_zero, List.getD_cons_succ, List.setIfInBounds_toArray, List.set_cons_zero, List.set_cons_succ]
                    try simp only [f0]
                  refine StepsF.cons rfl rfl (fun x wx hB hF K hK => ?_) ?_
                  · have q1 : Below wr.heap.size wr wx := below_then bD hB
                    have q2 := cW wx q1; have p0 := q2.1.1; have p1 := q2.1.2.1; have p2 := q2.1.2.2.1; have p3 := q2.1.2.2.2; have r0 := q2.2.1.1; have r1 := q2.2.1.2.1; have r2 := q2.2.1.2.2.1; have r3 := q2.2.1.2.2.2; have cb := q2.2.2; clear q2
                    simp only [acts, Act.put, List.getD_cons_zero, List.getD_cons_succ, List.setIfInBounds_toArray, List.set_cons_zero, List.set_cons_succ]
                    go_simp
                    refine hK.out _ _ (after_mk (.agg #[.int .i64 X.a, .int .i64 X.b, .int .i64 X.c, .int .i64 X.d] : Value) ?_ (Below.refl _ _) rfl (fun h => absurd h (by decide)))
                    simp only [acts, Act.put, List.getD_cons_zero, List.getD_cons_succ, List.setIfInBounds_toArray, List.set_cons_zero, List.set_cons_succ]
                  refine StepsF.cons rfl rfl (fun x wx hB hF K hK => ?_) ?_
                  · have f2 : x 2 = (.agg #[.int .i64 X.a, .int .i64 X.b, .int .i64 X.c, .int .i64 X.d] : Value) := hF 2 (by decide) (by kernel_rfl)
                    have q1 : Below wr.heap.size wr wx := below_then bD hB
                    simp only [acts, Act.put, List.getD_cons_zero, List.getD_cons_succ, List.setIfInBounds_toArray, List.set_cons_zero, List.set_cons_succ]
                    go_simp
                    try simp only [f2]
                    with_reducible refine P3.out _ _ (fun wy hb => ?_)
                    refine hK.out _ _ (after_mk (.int .i64 S : Value) ?_ hb rfl (fun h => absurd h (by decide)))
                    simp only [acts, Act.put, List.getD_cons_zero, List.getD_cons_succ, List.setIfInBounds_toArray, List.set_cons_zero, List.set_cons_succ]
                    try simp only [f2]
                  refine StepsF.cons rfl rfl (fun x wx hB hF K hK => ?_) ?_
                  · have f1 : x 1 = (.int .i64 S : Value) := hF 1 (by decide) (by kernel_rfl)
                    have f3 : x 3 = (.int .i64 S : Value) := hF 3 (by decide) (by kernel_rfl)
                    simp only [acts, Act.put, List.getD_cons_zero, List.getD_cons_succ, List.setIfInBounds_toArray, List.set_cons_zero, List.set_cons_succ]
                    go_simp
                    refine hK.out _ _ (after_mk (.bool false : Value) ?_ (Below.refl _ _) rfl (fun h => absurd h (by decide)))
                    simp only [acts, Act.put, List.getD_cons_zero, List.getD_cons_succ, List.setIfInBounds_toArray, List.set_cons_zero, List.set_cons_succ]
                    try simp only [f1, f3]
                  refine StepsF.cons rfl rfl (fun x wx hB hF K hK => ?_) ?_
                  · have f4 : x 4 = (.bool false : Value) := hF 4 (by decide) (by kernel_rfl)
                    simp only [acts, Act.put, List.getD_cons_zero, List.getD_cons_succ, List.setIfInBounds_toArray, List.set_cons_zero, List.set_cons_succ]
                    go_simp
                    refine hK.out _ _ (after_mk (.bool false : Value) ?_ (Below.refl _ _) rfl (fun h => absurd h (by decide)))
                    simp only [acts, Act.put, List.getD_cons_zero, List.getD_cons_succ, List.setIfInBounds_toArray, List.set_cons_zero, List.set_cons_succ]
                    try simp only [f4]
                  refine StepsF.cons rfl rfl (fun x wx hB hF K hK => ?_) ?_
                  · have f5 : x 5 = (.bool false : Value) := hF 5 (by decide) (by kernel_rfl)
                    simp only [acts, Act.put, List.getD_cons_zero, List.getD_cons_succ, List.setIfInBounds_toArray, List.set_cons_zero, List.set_cons_succ]
                    go_simp
                    refine hK.out _ _ (after_mk (.int .i64 0 : Value) ?_ (Below.refl _ _) rfl (fun h => absurd h (by decide)))
                    simp only [acts, Act.put, List.getD_cons_zero, List.getD_cons_succ, List.setIfInBounds_toArray, List.set_cons_zero, List.set_cons_succ]
                    try simp only [f5]
                  refine StepsF.cons rfl rfl (fun x wx hB hF K hK => ?_) ?_
                  · have f6 : x 6 = (.int .i64 0 : Value) := hF 6 (by decide) (by kernel_rfl)
                    have f5 : x 5 = (.bool false : Value) := hF 5 (by decide) (by kernel_rfl)
                    simp only [acts, Act.put, List.getD_cons_zero, List.getD_cons_succ, List.setIfInBounds_toArray, List.set_cons_zero, List.set_cons_succ]
                    go_simp
                    refine hK.out _ _ (after_mk (.bool false : Value) ?_ (Below.refl _ _) rfl (fun h => absurd h (by decide)))
                    simp only [acts, Act.put, List.getD_cons_zero, List.getD_cons_succ, List.setIfInBounds_toArray, List.set_cons_zero, List.set_cons_succ]
                    try simp only [f6, f5]
                  refine StepsF.cons rfl rfl (fun x wx hB hF K hK => ?_) ?_
                  · have f7 : x 7 = (.bool false : Value) := hF 7 (by decide) (by kernel_rfl)
                    have f5 : x 5 = (.bool false : Value) := hF 5 (by decide) (by kernel_rfl)
                    simp only [acts, Act.put, List.getD_cons_zero, List.getD_cons_succ, List.setIfInBounds_toArray, List.set_cons_zero, List.set_cons_succ]
                    go_simp
                    refine hK.out _ _ (after_mk (.bool false : Value) ?_ (Below.refl _ _) rfl (fun h => absurd h (by decide)))
                    simp only [acts, Act.put, List.getD_cons_zero, List.getD_cons_succ, List.setIfInBounds_toArray, List.set_cons_zero, List.set_cons_succ]
                    try simp only [f7, f5]
                  refine StepsF.cons rfl rfl (fun x wx hB hF K hK => ?_) ?_
                  · have f8 : x 8 = (.bool false : Value) := hF 8 (by decide) (by kernel_rfl)
                    simp only [acts, Act.put, List.getD_cons_zero, List.getD_cons_succ, List.setIfInBounds_toArray, List.set_cons_zero, List.set_cons_succ]
                    go_simp
                    refine hK.out _ _ (after_mk (undef : Value) ?_ (Below.refl _ _) rfl (fun h => absurd h (by decide)))
                    simp only [acts, Act.put, List.getD_cons_zero, List.getD_cons_succ, List.setIfInBounds_toArray, List.set_cons_zero, List.set_cons_succ]
                    try simp only [f8]
                  refine StepsF.cons rfl rfl (fun x wx hB hF K hK => ?_) ?_
                  · have f8 : x 8 = (.bool false : Value) := hF 8 (by decide) (by kernel_rfl)
                    simp only [acts, Act.put, List.getD_cons_zero, List.getD_cons_succ, List.setIfInBounds_toArray, List.set_cons_zero, List.set_cons_succ]
                    go_simp
                    refine hK.out _ _ (after_mk (undef : Value) ?_ (Below.refl _ _) rfl (fun h => absurd h (by decide)))
                    simp only [acts, Act.put, List.getD_cons_zero, List.getD_cons_succ, List.setIfInBounds_toArray, List.set_cons_zero, List.set_cons_succ]
                    try simp only [f8]
                  refine StepsF.cons rfl rfl (fun x wx hB hF K hK => ?_) ?_
                  · have f8 : x 8 = (.bool false : Value) := hF 8 (by decide) (by kernel_rfl)
                    simp only [acts, Act.put, List.getD_cons_zero, List.getD_cons_succ, List.setIfInBounds_toArray, List.set_cons_zero, List.set_cons_succ]
                    go_simp
                    refine hK.out _ _ (after_mk (undef : Value) ?_ (Below.refl _ _) rfl (fun h => absurd h (by decide)))
                    simp only [acts, Act.put, List.getD_cons_zero, List.getD_cons_succ, List.setIfInBounds_toArray, List.set_cons_zero, List.set_cons_succ]
                    try simp only [f8]
                  refine StepsF.cons rfl rfl (fun x wx hB hF K hK => ?_) ?_
                  · have f8 : x 8 = (.bool false : Value) := hF 8 (by decide) (by kernel_rfl)
                    simp only [acts, Act.put, List.getD_cons_zero, List.getD_cons_succ, List.setIfInBounds_toArray, List.set_cons_zero, List.set_cons_succ]
                    go_simp
                    refine hK.out _ _ (after_mk (undef : Value) ?_ (Below.refl _ _) rfl (fun h => absurd h (by decide)))
                    simp only [acts, Act.put, List.getD_cons_zero, List.getD_cons_succ, List.setIfInBounds_toArray, List.set_cons_zero, List.set_cons_succ]
                    try simp only [f8]
                  refine StepsF.cons rfl rfl (fun x wx hB hF K hK => ?_) ?_
                  · have f8 : x 8 = (.bool false : Value) := hF 8 (by decide) (by kernel_rfl)
                    simp only [acts, Act.put, List.getD_cons_zero, List.getD_cons_succ, List.setIfInBounds_toArray, List.set_cons_zero, List.set_cons_succ]
                    go_simp
                    refine hK.out _ _ (after_mk (undef : Value) ?_ (Below.refl _ _) rfl (fun h => absurd h (by decide)))
                    simp only [acts, Act.put, List.getD_cons_zero, List.getD_cons_succ, List.setIfInBounds_toArray, List.set_cons_zero, List.set_cons_succ]
                    try simp only [f8]
                  refine StepsF.cons rfl rfl (fun x wx hB hF K hK => ?_) ?_
                  · have f8 : x 8 = (.bool false : Value) := hF 8 (by decide) (by kernel_rfl)
                    simp only [acts, Act.put, List.getD_cons_zero, List.getD_cons_succ, List.setIfInBounds_toArray, List.set_cons_zero, List.set_cons_succ]
                    go_simp
                    refine hK.out _ _ (after_mk (undef : Value) ?_ (Below.refl _ _) rfl (fun h => absurd h (by decide)))
                    simp only [acts, Act.put, List.getD_cons_zero, List.getD_cons_succ, List.setIfInBounds_toArray, List.set_cons_zero, List.set_cons_succ]
                    try simp only [f8]
                  refine StepsF.cons rfl rfl (fun x wx hB hF K hK => ?_) ?_
                  · have f8 : x 8 = (.bool false : Value) := hF 8 (by decide) (by kernel_rfl)
                    simp only [acts, Act.put, List.getD_cons_zero, List.getD_cons_succ, List.setIfInBounds_toArray, List.set_cons_zero, List.set_cons_succ]
                    go_simp
                    refine hK.out _ _ (after_mk (undef : Value) ?_ (Below.refl _ _) rfl (fun h => absurd h (by decide)))
                    simp only [acts, Act.put, List.getD_cons_zero, List.getD_cons_succ, List.setIfInBounds_toArray, List.set_cons_zero, List.set_cons_succ]
                    try simp only [f8]
                  refine StepsF.cons rfl rfl (fun x wx hB hF K hK => ?_) ?_
                  · have f8 : x 8 = (.bool false : Value) := hF 8 (by decide) (by kernel_rfl)
                    simp only [acts, Act.put, List.getD_cons_zero, List.getD_cons_succ, List.setIfInBounds_toArray, List.set_cons_zero, List.set_cons_succ]
                    go_simp
                    refine hK.out _ _ (after_mk (undef : Value) ?_ (Below.refl _ _) rfl (fun h => absurd h (by decide)))
                    simp only [acts, Act.put, List.getD_cons_zero, List.getD_cons_succ, List.setIfInBounds_toArray, List.set_cons_zero, List.set_cons_succ]
                    try simp only [f8]
                  refine StepsF.cons rfl rfl (fun x wx hB hF K hK => ?_) ?_
                  · have f8 : x 8 = (.bool false : Value) := hF 8 (by decide) (by kernel_rfl)
                    have f16 : x 16 = (undef : Value) := hF 16 (by decide) (by kernel_rfl)
                    have f5 : x 5 = (.bool false : Value) := hF 5 (by decide) (by kernel_rfl)
                    simp only [acts, Act.put, List.getD_cons_zero, List.getD_cons_succ, List.setIfInBounds_toArray, List.set_cons_zero, List.set_cons_succ]
                    go_simp
                    refine hK.out _ _ (after_mk (.bool false : Value) ?_ (Below.refl _ _) rfl (fun h => absurd h (by decide)))
                    simp only [acts, Act.put, List.getD_cons_zero, List.getD_cons_succ, List.setIfInBounds_toArray, List.set_cons_zero, List.set_cons_succ]
                    try simp only [f8, f16, f5]
                  refine StepsF.cons rfl rfl (fun x wx hB hF K hK => ?_) ?_
                  · have f5 : x 5 = (.bool false : Value) := hF 5 (by decide) (by kernel_rfl)
                    have f17 : x 17 = (.bool false : Value) := hF 17 (by decide) (by kernel_rfl)
                    simp only [acts, Act.put, List.getD_cons_zero, List.getD_cons_succ, List.setIfInBounds_toArray, List.set_cons_zero, List.set_cons_succ]
                    go_simp
                    refine hK.out _ _ (after_mk (.bool false : Value) ?_ (Below.refl _ _) rfl (fun h => absurd h (by decide)))
                    simp only [acts, Act.put, List.getD_cons_zero, List.getD_cons_succ, List.setIfInBounds_toArray, List.set_cons_zero, List.set_cons_succ]
                    try simp only [f5, f17]
                  exact StepsF.nil
                · intro x wx hB hF hne fuel
                  have q1 : Below wr.heap.size wr wx := below_then (Below.refl _ _).drew hB
                  have v0 : x 0 = (.agg #[.int .i64 Y.a, .int .i64 Y.b, .int .i64 Y.c, .int .i64 Y.d] : Value) := hF 0 (by decide)
                  have v1 : x 1 = (.int .i64 S : Value) := hF 1 (by decide)
                  have v2 : x 2 = (.agg #[.int .i64 X.a, .int .i64 X.b, .int .i64 X.c, .int .i64 X.d] : Value) := hF 2 (by decide)
                  have v3 : x 3 = (.int .i64 S : Value) := hF 3 (by decide)
                  have v4 : x 4 = (.bool false : Value) := hF 4 (by decide)
                  have v5 : x 5 = (.bool false : Value) := hF 5 (by decide)
                  have v6 : x 6 = (.int .i64 0 : Value) := hF 6 (by decide)
                  have v7 : x 7 = (.bool false : Value) := hF 7 (by decide)
                  have v8 : x 8 = (.bool false : Value) := hF 8 (by decide)
                  have v9 : x 9 = (undef : Value) := hF 9 (by decide)
                  have v10 : x 10 = (undef : Value) := hF 10 (by decide)
                  have v11 : x 11 = (undef : Value) := hF 11 (by decide)
                  have v12 : x 12 = (undef : Value) := hF 12 (by decide)
                  have v13 : x 13 = (undef : Value) := hF 13 (by decide)
                  have v14 : x 14 = (undef : Value) := hF 14 (by decide)
                  have v15 : x 15 = (undef : Value) := hF 15 (by decide)
                  have v16 : x 16 = (undef : Value) := hF 16 (by decide)
                  have v17 : x 17 = (.bool false : Value) := hF 17 (by decide)
                  have v18 : x 18 = (.bool false : Value) := hF 18 (by decide)
                  clear hB hF hne
                  simp only [acts, Act.put, List.getD_cons_zero, List.getD_cons_succ, List.setIfInBounds_toArray, List.set_cons_zero, List.set_cons_succ]
                  rw [v0, v1, v2, v3, v4, v5, v6, v7, v8, v9, v10, v11, v12, v13, v14, v15, v16, v17, v18]
                  clear v0 v1 v2 v3 v4 v5 v6 v7 v8 v9 v10 v11 v12 v13 v14 v15 v16 v17 v18
                  refine wpAny_done (by kernel_rfl) ?_ _
                  go_wp2
                  go_meet
                  case rel => exact ⟨rfl, q1⟩
              · obtain rfl : D = b := by omega
                have hz2 : (D == 0) = false := by simp [hz]
                have hz3 : (D != 0) = true := by simp [hz]
                refine wp_region_ps [87, 88, 89, 90, 91, 92, 93, 94, 95, 96, 97, 98, 99, 100, 101, 102, 103, 104, 105] [fun v _ => v = (.agg #[.int .i64 Y.a, .int .i64 Y.b, .int .i64 Y.c, .int .i64 Y.d] : Value), fun v _ => v = (.int .i64 S : Value), fun v _ => v = (.agg #[.int .i64 X.a, .int .i64 X.b, .int .i64 X.c, .int .i64 X.d] : Value), fun v _ => v = (.int .i64 S : Value), fun v _ => v = (.bool false : Value), fun v _ => v = (.bool false : Value), fun v _ => v = (.int .i64 D : Value), fun v _ => v = (.bool true : Value), fun v _ => v = (.bool true : Value), fun v _ => v = (.int .i64 D : Value), fun v _ => v = (.slice (some ⟨go, 0, none⟩) n cp : Value), fun v _ => v = (.int .i64 (kn : Int) : Value), fun v _ => v = (.pointer (some ⟨go, kn * 5, none⟩) : Value), fun v _ => v = (.pointer (some ⟨go, kn * 5, none⟩) : Value), fun v _ => v = (.pointer (some ⟨go, kn * 5 + 1, none⟩) : Value), fun v _ => v = (.int .i64 D : Value), fun v _ => v = (.bool false : Value), fun v _ => v = (.bool false : Value), fun v _ => v = (.bool false : Value)] [] [0, 1, 2, 3, 4, 5, 6, 7, 8, 9, 10, 11, 12, 13, 14, 15, 16, 17, 18] #[true, true, true, true, true, true, true, true, true, true, true, true, true, true, true, true, true, true, true] 0 (by kernel_rfl) (by kernel_rfl) (by kernel_rfl) (by kernel_rfl) ?_ ?_ ?_
                · intro p hp
                  simp only [List.mem_cons, List.not_mem_nil, or_false] at hp
                  rcases hp with rfl | rfl | rfl | rfl | rfl | rfl | rfl | rfl | rfl | rfl | rfl | rfl | rfl | rfl | rfl | rfl | rfl | rfl | rfl <;> exact bears_is _
                · have bD : Below wr.heap.size wr wr.drew := (Below.refl _ _).drew
                  refine StepsF.cons rfl rfl (fun x wx hB hF K hK => ?_) ?_
                  · have q1 : Below wr.heap.size wr wx := below_then bD hB
                    have q2 := cW wx q1; have p0 := q2.1.1; have p1 := q2.1.2.1; have p2 := q2.1.2.2.1; have p3 := q2.1.2.2.2; have r0 := q2.2.1.1; have r1 := q2.2.1.2.1; have r2 := q2.2.1.2.2.1; have r3 := q2.2.1.2.2.2; have cb := q2.2.2; clear q2
                    simp only [acts, Act.put, List.getD_cons_zero, List.getD_cons_succ, List.setIfInBounds_toArray, List.set_cons_zero, List.set_cons_succ]
                    go_simp
                    refine hK.out _ _ (after_mk (.agg #[.int .i64 Y.a, .int .i64 Y.b, .int .i64 Y.c, .int .i64 Y.d] : Value) ?_ (Below.refl _ _) rfl (fun h => absurd h (by decide)))
                    simp only [acts, Act.put, List.getD_cons_zero, List.getD_cons_succ, List.setIfInBounds_toArray, List.set_cons_zero, List.set_cons_succ]
                  refine StepsF.cons rfl rfl (fun x wx hB hF K hK => ?_) ?_
                  · have f0 : x 0 = (.agg #[.int .i64 Y.a, .int .i64 Y.b, .int .i64 Y.c, .int .i64 Y.d] : Value) := hF 0 (by decide) (by kernel_rfl)
                    have q1 : Below wr.heap.size wr wx := below_then bD hB
                    simp only [acts, Act.put, List.getD_cons_zero, List.getD_cons_succ, List.setIfInBounds_toArray, List.set_cons_zero, List.set_cons_succ]
                    go_simp
                    try simp only [f0]
                    with_reducible refine P4.out _ _ (fun wy hb => ?_)
                    refine hK.out _ _ (after_mk (.int .i64 S : Value) ?_ hb rfl (fun h => absurd h (by decide)))
                    simp only [acts, Act.put, List.getD_cons_zero, List.getD_cons_succ, List.setIfInBounds_toArray, List.set_cons_zero, List.set_cons_succ]
                    try simp only [f0]
                  refine StepsF.cons rfl rfl (fun x wx hB hF K hK => ?_) ?_
                  · have q1 : Below wr.heap.size wr wx := below_then bD hB
                    have q2 := cW wx q1; have p0 := q2.1.1; have p1 := q2.1.2.1; have p2 := q2.1.2.2.1; have p3 := q2.1.2.2.2; have r0 := q2.2.1.1; have r1 := q2.2.1.2.1; have r2 := q2.2.1.2.2.1; have r3 := q2.2.1.2.2.2; have cb := q2.2.2; clear q2
                    simp only [acts, Act.put, List.getD_cons_zero, List.getD_cons_succ, List.setIfInBounds_toArray, List.set_cons_zero, List.set_cons_succ]
                    go_simp
                    refine hK.out _ _ (after_mk (.agg #[.int .i64 X.a, .int .i64 X.b, .int .i64 X.c, .int .i64 X.d] : Value) ?_ (Below.refl _ _) rfl (fun h => absurd h (by decide)))
                    simp only [acts, Act.put, List.getD_cons_zero, List.getD_cons_succ, List.setIfInBounds_toArray, List.set_cons_zero, List.set_cons_succ]
                  refine StepsF.cons rfl rfl (fun x wx hB hF K hK => ?_) ?_
                  · have f2 : x 2 = (.agg #[.int .i64 X.a, .int .i64 X.b, .int .i64 X.c, .int .i64 X.d] : Value) := hF 2 (by decide) (by kernel_rfl)
                    have q1 : Below wr.heap.size wr wx := below_then bD hB
                    simp only [acts, Act.put, List.getD_cons_zero, List.getD_cons_succ, List.setIfInBounds_toArray, List.set_cons_zero, List.set_cons_succ]
                    go_simp
                    try simp only [f2]
                    with_reducible refine P3.out _ _ (fun wy hb => ?_)
                    refine hK.out _ _ (after_mk (.int .i64 S : Value) ?_ hb rfl (fun h => absurd h (by decide)))
                    simp only [acts, Act.put, List.getD_cons_zero, List.getD_cons_succ, List.setIfInBounds_toArray, List.set_cons_zero, List.set_cons_succ]
                    try simp only [f2]
                  refine StepsF.cons rfl rfl (fun x wx hB hF K hK => ?_) ?_
                  · have f1 : x 1 = (.int .i64 S : Value) := hF 1 (by decide) (by kernel_rfl)
                    have f3 : x 3 = (.int .i64 S : Value) := hF 3 (by decide) (by kernel_rfl)
                    simp only [acts, Act.put, List.getD_cons_zero, List.getD_cons_succ, List.setIfInBounds_toArray, List.set_cons_zero, List.set_cons_succ]
                    go_simp
                    refine hK.out _ _ (after_mk (.bool false : Value) ?_ (Below.refl _ _) rfl (fun h => absurd h (by decide)))
                    simp only [acts, Act.put, List.getD_cons_zero, List.getD_cons_succ, List.setIfInBounds_toArray, List.set_cons_zero, List.set_cons_succ]
                    try simp only [f1, f3]
                  refine StepsF.cons rfl rfl (fun x wx hB hF K hK => ?_) ?_
                  · have f4 : x 4 = (.bool false : Value) := hF 4 (by decide) (by kernel_rfl)
                    simp only [acts, Act.put, List.getD_cons_zero, List.getD_cons_succ, List.setIfInBounds_toArray, List.set_cons_zero, List.set_cons_succ]
                    go_simp
                    refine hK.out _ _ (after_mk (.bool false : Value) ?_ (Below.refl _ _) rfl (fun h => absurd h (by decide)))
                    simp only [acts, Act.put, List.getD_cons_zero, List.getD_cons_succ, List.setIfInBounds_toArray, List.set_cons_zero, List.set_cons_succ]
                    try simp only [f4]
                  refine StepsF.cons rfl rfl (fun x wx hB hF K hK => ?_) ?_
                  · have f5 : x 5 = (.bool false : Value) := hF 5 (by decide) (by kernel_rfl)
                    simp only [acts, Act.put, List.getD_cons_zero, List.getD_cons_succ, List.setIfInBounds_toArray, List.set_cons_zero, List.set_cons_succ]
                    go_simp
                    refine hK.out _ _ (after_mk (.int .i64 D : Value) ?_ (Below.refl _ _) rfl (fun h => absurd h (by decide)))
                    simp only [acts, Act.put, List.getD_cons_zero, List.getD_cons_succ, List.setIfInBounds_toArray, List.set_cons_zero, List.set_cons_succ]
                    try simp only [f5]
                  refine StepsF.cons rfl rfl (fun x wx hB hF K hK => ?_) ?_
                  · have f6 : x 6 = (.int .i64 D : Value) := hF 6 (by decide) (by kernel_rfl)
                    have f5 : x 5 = (.bool false : Value) := hF 5 (by decide) (by kernel_rfl)
                    simp only [acts, Act.put, List.getD_cons_zero, List.getD_cons_succ, List.setIfInBounds_toArray, List.set_cons_zero, List.set_cons_succ]
                    go_simp
                    refine hK.out _ _ (after_mk (.bool true : Value) ?_ (Below.refl _ _) rfl (fun h => absurd h (by decide)))
                    simp only [acts, Act.put, List.getD_cons_zero, List.getD_cons_succ, List.setIfInBounds_toArray, List.set_cons_zero, List.set_cons_succ]
                    try simp only [f6, f5]
                  refine StepsF.cons rfl rfl (fun x wx hB hF K hK => ?_) ?_
                  · have f7 : x 7 = (.bool true : Value) := hF 7 (by decide) (by kernel_rfl)
                    have f5 : x 5 = (.bool false : Value) := hF 5 (by decide) (by kernel_rfl)
                    simp only [acts, Act.put, List.getD_cons_zero, List.getD_cons_succ, List.setIfInBounds_toArray, List.set_cons_zero, List.set_cons_succ]
                    go_simp
                    refine hK.out _ _ (after_mk (.bool true : Value) ?_ (Below.refl _ _) rfl (fun h => absurd h (by decide)))
                    simp only [acts, Act.put, List.getD_cons_zero, List.getD_cons_succ, List.setIfInBounds_toArray, List.set_cons_zero, List.set_cons_succ]
                    try simp only [f7, f5]
                  refine StepsF.cons rfl rfl (fun x wx hB hF K hK => ?_) ?_
                  · have f8 : x 8 = (.bool true : Value) := hF 8 (by decide) (by kernel_rfl)
                    simp only [acts, Act.put, List.getD_cons_zero, List.getD_cons_succ, List.setIfInBounds_toArray, List.set_cons_zero, List.set_cons_succ]
                    go_simp
                    refine hK.out _ _ (after_mk (.int .i64 D : Value) ?_ (Below.refl _ _) rfl (fun h => absurd h (by decide)))
                    simp only [acts, Act.put, List.getD_cons_zero, List.getD_cons_succ, List.setIfInBounds_toArray, List.set_cons_zero, List.set_cons_succ]
                    try simp only [f8]
                  refine StepsF.cons rfl rfl (fun x wx hB hF K hK => ?_) ?_
                  · have f8 : x 8 = (.bool true : Value) := hF 8 (by decide) (by kernel_rfl)
                    simp only [acts, Act.put, List.getD_cons_zero, List.getD_cons_succ, List.setIfInBounds_toArray, List.set_cons_zero, List.set_cons_succ]
                    go_simp
                    refine hK.out _ _ (after_mk (.slice (some ⟨go, 0, none⟩) n cp : Value) ?_ (Below.refl _ _) rfl (fun h => absurd h (by decide)))
                    simp only [acts, Act.put, List.getD_cons_zero, List.getD_cons_succ, List.setIfInBounds_toArray, List.set_cons_zero, List.set_cons_succ]
                    try simp only [f8]
                  refine StepsF.cons rfl rfl (fun x wx hB hF K hK => ?_) ?_
                  · have f8 : x 8 = (.bool true : Value) := hF 8 (by decide) (by kernel_rfl)
                    simp only [acts, Act.put, List.getD_cons_zero, List.getD_cons_succ, List.setIfInBounds_toArray, List.set_cons_zero, List.set_cons_succ]
                    go_simp
                    refine hK.out _ _ (after_mk (.int .i64 (kn : Int) : Value) ?_ (Below.refl _ _) rfl (fun h => absurd h (by decide)))
                    simp only [acts, Act.put, List.getD_cons_zero, List.getD_cons_succ, List.setIfInBounds_toArray, List.set_cons_zero, List.set_cons_succ]
                    try simp only [f8]
                  refine StepsF.cons rfl rfl (fun x wx hB hF K hK => ?_) ?_
                  · have f10 : x 10 = (.slice (some ⟨go, 0, none⟩) n cp : Value) := hF 10 (by decide) (by kernel_rfl)
                    have f11 : x 11 = (.int .i64 (kn : Int) : Value) := hF 11 (by decide) (by kernel_rfl)
                    have f8 : x 8 = (.bool true : Value) := hF 8 (by decide) (by kernel_rfl)
                    simp only [acts, Act.put, List.getD_cons_zero, List.getD_cons_succ, List.setIfInBounds_toArray, List.set_cons_zero, List.set_cons_succ]
                    go_simp
                    refine hK.out _ _ (after_mk (.pointer (some ⟨go, kn * 5, none⟩) : Value) ?_ (Below.refl _ _) rfl (fun h => absurd h (by decide)))
                    simp only [acts, Act.put, List.getD_cons_zero, List.getD_cons_succ, List.setIfInBounds_toArray, List.set_cons_zero, List.set_cons_succ]
                    try simp only [f10, f11, f8]
                  refine StepsF.cons rfl rfl (fun x wx hB hF K hK => ?_) ?_
                  · have f12 : x 12 = (.pointer (some ⟨go, kn * 5, none⟩) : Value) := hF 12 (by decide) (by kernel_rfl)
                    have f8 : x 8 = (.bool true : Value) := hF 8 (by decide) (by kernel_rfl)
                    simp only [acts, Act.put, List.getD_cons_zero, List.getD_cons_succ, List.setIfInBounds_toArray, List.set_cons_zero, List.set_cons_succ]
                    go_simp
                    refine hK.out _ _ (after_mk (.pointer (some ⟨go, kn * 5, none⟩) : Value) ?_ (Below.refl _ _) rfl (fun h => absurd h (by decide)))
                    simp only [acts, Act.put, List.getD_cons_zero, List.getD_cons_succ, List.setIfInBounds_toArray, List.set_cons_zero, List.set_cons_succ]
                    try simp only [f12, f8]
                  refine StepsF.cons rfl rfl (fun x wx hB hF K hK => ?_) ?_
                  · have f13 : x 13 = (.pointer (some ⟨go, kn * 5, none⟩) : Value) := hF 13 (by decide) (by kernel_rfl)
                    have f8 : x 8 = (.bool true : Value) := hF 8 (by decide) (by kernel_rfl)
                    simp only [acts, Act.put, List.getD_cons_zero, List.getD_cons_succ, List.setIfInBounds_toArray, List.set_cons_zero, List.set_cons_succ]
                    go_simp
                    refine hK.out _ _ (after_mk (.pointer (some ⟨go, kn * 5 + 1, none⟩) : Value) ?_ (Below.refl _ _) rfl (fun h => absurd h (by decide)))
                    simp only [acts, Act.put, List.getD_cons_zero, List.getD_cons_succ, List.setIfInBounds_toArray, List.set_cons_zero, List.set_cons_succ]
                    try simp only [f13, f8]
                  refine StepsF.cons rfl rfl (fun x wx hB hF K hK => ?_) ?_
                  · have f14 : x 14 = (.pointer (some ⟨go, kn * 5 + 1, none⟩) : Value) := hF 14 (by decide) (by kernel_rfl)
                    have f8 : x 8 = (.bool true : Value) := hF 8 (by decide) (by kernel_rfl)
                    have q1 : Below wr.heap.size wr wx := below_then bD hB
                    have q2 := cW wx q1; have p0 := q2.1.1; have p1 := q2.1.2.1; have p2 := q2.1.2.2.1; have p3 := q2.1.2.2.2; have r0 := q2.2.1.1; have r1 := q2.2.1.2.1; have r2 := q2.2.1.2.2.1; have r3 := q2.2.1.2.2.2; have cb := q2.2.2; clear q2
                    simp only [acts, Act.put, List.getD_cons_zero, List.getD_cons_succ, List.setIfInBounds_toArray, List.set_cons_zero, List.set_cons_succ]
                    go_simp
                    refine hK.out _ _ (after_mk (.int .i64 D : Value) ?_ (Below.refl _ _) rfl (fun h => absurd h (by decide)))
                    simp only [acts, Act.put, List.getD_cons_zero, List.getD_cons_succ, List.setIfInBounds_toArray, List.set_cons_zero, List.set_cons_succ]
                    try simp only [f14, f8]
                  refine StepsF.cons rfl rfl (fun x wx hB hF K hK => ?_) ?_
                  · have f9 : x 9 = (.int .i64 D : Value) := hF 9 (by decide) (by kernel_rfl)
                    have f15 : x 15 = (.int .i64 D : Value) := hF 15 (by decide) (by kernel_rfl)
                    have f8 : x 8 = (.bool true : Value) := hF 8 (by decide) (by kernel_rfl)
                    simp only [acts, Act.put, List.getD_cons_zero, List.getD_cons_succ, List.setIfInBounds_toArray, List.set_cons_zero, List.set_cons_succ]
                    go_simp
                    refine hK.out _ _ (after_mk (.bool false : Value) ?_ (Below.refl _ _) rfl (fun h => absurd h (by decide)))
                    simp only [acts, Act.put, List.getD_cons_zero, List.getD_cons_succ, List.setIfInBounds_toArray, List.set_cons_zero, List.set_cons_succ]
                    try simp only [f9, f15, f8]
                  refine StepsF.cons rfl rfl (fun x wx hB hF K hK => ?_) ?_
                  · have f8 : x 8 = (.bool true : Value) := hF 8 (by decide) (by kernel_rfl)
                    have f16 : x 16 = (.bool false : Value) := hF 16 (by decide) (by kernel_rfl)
                    have f5 : x 5 = (.bool false : Value) := hF 5 (by decide) (by kernel_rfl)
                    simp only [acts, Act.put, List.getD_cons_zero, List.getD_cons_succ, List.setIfInBounds_toArray, List.set_cons_zero, List.set_cons_succ]
                    go_simp
                    refine hK.out _ _ (after_mk (.bool false : Value) ?_ (Below.refl _ _) rfl (fun h => absurd h (by decide)))
                    simp only [acts, Act.put, List.getD_cons_zero, List.getD_cons_succ, List.setIfInBounds_toArray, List.set_cons_zero, List.set_cons_succ]
                    try simp only [f8, f16, f5]
                  refine StepsF.cons rfl rfl (fun x wx hB hF K hK => ?_) ?_
                  · have f5 : x 5 = (.bool false : Value) := hF 5 (by decide) (by kernel_rfl)
                    have f17 : x 17 = (.bool false : Value) := hF 17 (by decide) (by kernel_rfl)
                    simp only [acts, Act.put, List.getD_cons_zero, List.getD_cons_succ, List.setIfInBounds_toArray, List.set_cons_zero, List.set_cons_succ]
                    go_simp
                    refine hK.out _ _ (after_mk (.bool false : Value) ?_ (Below.refl _ _) rfl (fun h => absurd h (by decide)))
                    simp only [acts, Act.put, List.getD_cons_zero, List.getD_cons_succ, List.setIfInBounds_toArray, List.set_cons_zero, List.set_cons_succ]
                    try simp only [f5, f17]
                  exact StepsF.nil
                · intro x wx hB hF hne fuel
                  have q1 : Below wr.heap.size wr wx := below_then (Below.refl _ _).drew hB
                  have v0 : x 0 = (.agg #[.int .i64 Y.a, .int .i64 Y.b, .int .i64 Y.c, .int .i64 Y.d] : Value) := hF 0 (by decide)
                  have v1 : x 1 = (.int .i64 S : Value) := hF 1 (by decide)
                  have v2 : x 2 = (.agg #[.int .i64 X.a, .int .i64 X.b, .int .i64 X.c, .int .i64 X.d] : Value) := hF 2 (by decide)
                  have v3 : x 3 = (.int .i64 S : Value) := hF 3 (by decide)
                  have v4 : x 4 = (.bool false : Value) := hF 4 (by decide)
                  have v5 : x 5 = (.bool false : Value) := hF 5 (by decide)
                  have v6 : x 6 = (.int .i64 D : Value) := hF 6 (by decide)
                  have v7 : x 7 = (.bool true : Value) := hF 7 (by decide)
                  have v8 : x 8 = (.bool true : Value) := hF 8 (by decide)
                  have v9 : x 9 = (.int .i64 D : Value) := hF 9 (by decide)
                  have v10 : x 10 = (.slice (some ⟨go, 0, none⟩) n cp : Value) := hF 10 (by decide)
                  have v11 : x 11 = (.int .i64 (kn : Int) : Value) := hF 11 (by decide)
                  have v12 : x 12 = (.pointer (some ⟨go, kn * 5, none⟩) : Value) := hF 12 (by decide)
                  have v13 : x 13 = (.pointer (some ⟨go, kn * 5, none⟩) : Value) := hF 13 (by decide)
                  have v14 : x 14 = (.pointer (some ⟨go, kn * 5 + 1, none⟩) : Value) := hF 14 (by decide)
                  have v15 : x 15 = (.int .i64 D : Value) := hF 15 (by decide)
                  have v16 : x 16 = (.bool false : Value) := hF 16 (by decide)
                  have v17 : x 17 = (.bool false : Value) := hF 17 (by decide)
                  have v18 : x 18 = (.bool false : Value) := hF 18 (by decide)
                  clear hB hF hne
                  simp only [acts, Act.put, List.getD_cons_zero, List.getD_cons_succ, List.setIfInBounds_toArray, List.set_cons_zero, List.set_cons_succ]
                  rw [v0, v1, v2, v3, v4, v5, v6, v7, v8, v9, v10, v11, v12, v13, v14, v15, v16, v17, v18]
                  clear v0 v1 v2 v3 v4 v5 v6 v7 v8 v9 v10 v11 v12 v13 v14 v15 v16 v17 v18
                  refine wpAny_done (by kernel_rfl) ?_ _
                  go_wp2
                  go_meet
                  case rel => exact ⟨rfl, q1⟩
          case rest =>
          obtain ⟨rfl, hBc⟩ := hcut
          obtain ⟨W5, hW5⟩ : ∃ W, W = wc := ⟨_, rfl⟩
          subst hW5
          have c5 : ∀ wx, Below W5.heap.size W5 wx → (wx.cell? ⟨gx, 0, none⟩ = some (.int .i64 X.a) ∧ wx.cell? ⟨gx, 1, none⟩ = some (.int .i64 X.b) ∧ wx.cell? ⟨gx, 2, none⟩ = some (.int .i64 X.c) ∧ wx.cell? ⟨gx, 3, none⟩ = some (.int .i64 X.d)) ∧ (wx.cell? ⟨gy, 0, none⟩ = some (.int .i64 Y.a) ∧ wx.cell? ⟨gy, 1, none⟩ = some (.int .i64 Y.b) ∧ wx.cell? ⟨gy, 2, none⟩ = some (.int .i64 Y.c) ∧ wx.cell? ⟨gy, 3, none⟩ = some (.int .i64 Y.d)) := fun wx bx => by
            have h := cW _ (below_then hBc bx)
            exact ⟨h.1, h.2.1⟩
          have bW5 := below_then bW4 hBc
          have O5 : Hid (_) := own_below O4.out hBc
          clear cW kx4 ky4 O4 hBc bW4 P3 P4 hw
          go_wp2
          go_loopw [17] (fun i wx => ∃ j : Nat, j ≤ 5 ∧ i = .int .i64 j ∧ Below W5.heap.size W5 wx) (fun i _ => 5 - (intOf i).toNat)
          case atStart => exact ⟨0, by omega, rfl, Below.refl _ _⟩
          case round =>
          obtain ⟨q, hq, rfl, hB5⟩ := hrel
          by_cases hlt : q < 5
          · obtain ⟨F, hF⟩ : ∃ F, X.from q = F := ⟨_, rfl⟩
            obtain ⟨G, hG⟩ : ∃ F, Y.from q = F := ⟨_, rfl⟩
            have hFG := MV.out.from hb0 q
            rw [hF, hG] at hFG
            have hXB := HX.out.mono (C := 1152921504606846976) (by omega)
            have hYB := HY.out.mono (C := 1152921504606846976) (by omega)
            have P5 : Hid (_) := from_k hF hXB (by omega) (by omega)
            have P6 : Hid (_) := from_k hG hYB (by omega) (by omega)
            clear hF hG hXB hYB
            have cW : ∀ wx, Below wr.heap.size wr wx → (wx.cell? ⟨gx, 0, none⟩ = some (.int .i64 X.a) ∧ wx.cell? ⟨gx, 1, none⟩ = some (.int .i64 X.b) ∧ wx.cell? ⟨gx, 2, none⟩ = some (.int .i64 X.c) ∧ wx.cell? ⟨gx, 3, none⟩ = some (.int .i64 X.d)) ∧ (wx.cell? ⟨gy, 0, none⟩ = some (.int .i64 Y.a) ∧ wx.cell? ⟨gy, 1, none⟩ = some (.int .i64 Y.b) ∧ wx.cell? ⟨gy, 2, none⟩ = some (.int .i64 Y.c) ∧ wx.cell? ⟨gy, 3, none⟩ = some (.int .i64 Y.d)) := fun wx bx => c5 _ (below_then hB5 bx)
            go_upto_region 28 with fail
            have hB : Below wr.heap.size wr wr.drew := (Below.refl _ _).drew
            go_region_held3 (fun wx => Below wr.heap.size wr wx ∧ (wx.cell? ⟨gx, 0, none⟩ = some (.int .i64 X.a) ∧ wx.cell? ⟨gx, 1, none⟩ = some (.int .i64 X.b) ∧ wx.cell? ⟨gx, 2, none⟩ = some (.int .i64 X.c) ∧ wx.cell? ⟨gx, 3, none⟩ = some (.int .i64 X.d)) ∧ (wx.cell? ⟨gy, 0, none⟩ = some (.int .i64 Y.a) ∧ wx.cell? ⟨gy, 1, none⟩ = some (.int .i64 Y.b) ∧ wx.cell? ⟨gy, 2, none⟩ = some (.int .i64 Y.c) ∧ wx.cell? ⟨gy, 3, none⟩ = some (.int .i64 Y.d))) (exact held (cW _) hB) (first | (with_reducible refine P5.out _ _ (fun wl2 bn => ?_); replace hB := below_then hB bn) | (with_reducible refine P6.out _ _ (fun wl2 bn => ?_); replace hB := below_then hB bn))
            go_wp2
            go_roundw
            case rel => exact ⟨q + 1, by omega, by go_num, below_then hB5 hB⟩
            case measure => simp [intOf]; omega
          · obtain rfl : q = 5 := by omega
            rw [show ((5 : Nat) : Int) = 5 from rfl]
            have O6 := own_below O5.out hB5
            have f1 : wr.frozen? ⟨go, kn * 5 + 1, none⟩ = false := O6.frozenAt (kn * 5 + 1)
            have c1 : wr.cell? ⟨go, kn * 5 + 1, none⟩ = some (.int .i64 b) := own_at O6 HYN.out YS1.out (j := 1) rfl
            have bW6 := below_then bW5 hB5
            have HO6 : Hid (_) := O6
            obtain ⟨zs, hzs⟩ : ∃ ys', ys.set kn ⟨0, 0, 0, m + 1, false⟩ = ys' := ⟨_, rfl⟩
            have HZS : Hid (ys.set kn ⟨0, 0, 0, m + 1, false⟩ = zs) := hzs
            clear O6 O5 c5 bW5 hB5 hzs
            go_upto_region 31 with fail
            refine wp_letter (fun wx => Below W1.heap.size W1 wx ∧ wx.ownsRow W1.heap.size 29 5 (.slice (some ⟨go, 0, none⟩) n cp) n (zs.flatMap LoanP.f)) ⟨bW6.setCell hg _, HZS.out ▸ own_turn HO6.out YS1.out rfl (by omega)⟩ ?_
            clear HO6 f1 c1 bW6
            rintro W7 ⟨hB7, O7⟩
            have hZN : zs.length = n := by rw [← HZS.out, List.length_set]; exact HYN.out
            have hZA : ∀ x ∈ zs, 0 ≤ x.bal ∧ x.bal ≤ 1073741824 := by
              rw [← HZS.out, ← HYS.out]
              exact set_ok kn _ (set_ok kn _ HA.out ⟨hb0, hb1⟩) ⟨by simp, by simp⟩
            have L7 := own_lies LoanP.len O7 hZN
            obtain ⟨Z, eZ⟩ : ∃ Z, bkts zs = Z := ⟨_, rfl⟩
            have aZ : Z.all = S - b := by
              have h := all_off ys kn _ (m + 1) YS1.out
              rw [HZS.out, eZ, EY.out, MV.out.all, HS.out] at h
              exact h
            have bZ : Z.Bd (20 * 1073741824) := by rw [← eZ]; exact bkts_bd hZA 20 (by omega) (by omega)
            have bS := BkT.from_bd HX.out 0
            rw [X.from_zero 0 (by omega), HS.out] at bS
            obtain ⟨R, hR⟩ : ∃ R, S - b = R := ⟨_, rfl⟩
            rw [hR] at aZ
            have P7 : Hid (_) := lof_k eZ L7 (fun x hx => ⟨(hZA x hx).1, by have := (hZA x hx).2; omega⟩) (by omega)
            have P8 : Hid (_) := ball_k aZ (bZ.mono (C := 1152921504606846976) (by omega))
            have P9 : Hid (_) := ball_k HS.out (HX.out.mono (C := 1152921504606846976) (by omega))
            have u9 : IntKind.i64.wrap R = R := wrap_in _ (by omega) (by omega)
            obtain ⟨bq, oq, xq, rfl, hxq, _, _, cl, _, _, _⟩ := HL1.out.loan kn hkl
            rw [HXK.out] at hxq
            injection hxq with hxq
            subst hxq
            simp only at cl
            have k7 := kx.then hB7
            have cl7 := cell_keep hB7 cl
            have cW : ∀ wx, Below W7.heap.size W7 wx → (wx.cell? ⟨gx, 0, none⟩ = some (.int .i64 X.a) ∧ wx.cell? ⟨gx, 1, none⟩ = some (.int .i64 X.b) ∧ wx.cell? ⟨gx, 2, none⟩ = some (.int .i64 X.c) ∧ wx.cell? ⟨gx, 3, none⟩ = some (.int .i64 X.d)) ∧ wx.cell? ⟨bq, oq + kn * 5 + 1, none⟩ = some (.int .i64 b) := fun wx bx => by
              have hA := k7.then bx
              exact ⟨⟨hA.cell 0 _ rfl, hA.cell 1 _ rfl, hA.cell 2 _ rfl, hA.cell 3 _ rfl⟩, cell_keep bx cl7⟩
            clear hZN hZA L7 eZ aZ bZ bS O7 cl k7 cl7
            have hB : Below W7.heap.size W7 W7.drew := (Below.refl _ _).drew
            go_region_held3 (fun wx => Below W7.heap.size W7 wx ∧ (wx.cell? ⟨gx, 0, none⟩ = some (.int .i64 X.a) ∧ wx.cell? ⟨gx, 1, none⟩ = some (.int .i64 X.b) ∧ wx.cell? ⟨gx, 2, none⟩ = some (.int .i64 X.c) ∧ wx.cell? ⟨gx, 3, none⟩ = some (.int .i64 X.d)) ∧ wx.cell? ⟨bq, oq + kn * 5 + 1, none⟩ = some (.int .i64 b)) (exact held (cW _) hB) (first | (with_reducible refine P7.out _ _ hB (fun wl2 bn => ?_); replace hB := below_then hB bn) | (with_reducible refine P8.out _ _ (fun wl2 bn => ?_); replace hB := below_then hB bn) | (with_reducible refine P9.out _ _ (fun wl2 bn => ?_); replace hB := below_then hB bn))
            go_wp2
            go_meet
            case rel => exact below_then hB7 hB
      · go_wp2
        go_meet
        case rel => exact Below.refl _ _
    case rest =>
      obtain ⟨W8, hW8⟩ : ∃ W, W = wc := ⟨_, rfl⟩
      subst hW8
      have k8 := kx.then hcut
      have b8 := below_then bW1 hcut
      have c8 : ∀ wx, Below W8.heap.size W8 wx → (wx.cell? ⟨gx, 0, none⟩ = some (.int .i64 X.a) ∧ wx.cell? ⟨gx, 1, none⟩ = some (.int .i64 X.b) ∧ wx.cell? ⟨gx, 2, none⟩ = some (.int .i64 X.c) ∧ wx.cell? ⟨gx, 3, none⟩ = some (.int .i64 X.d)) := fun wx bx => by
        have hA := k8.then bx
        exact ⟨hA.cell 0 _ rfl, hA.cell 1 _ rfl, hA.cell 2 _ rfl, hA.cell 3 _ rfl⟩
      clear k8 kx bW1 HL1 HXS HA HA40 EX
      go_wp2
      go_loopw [18] (fun i wx => ∃ j : Nat, j ≤ 5 ∧ i = .int .i64 j ∧ Below W8.heap.size W8 wx) (fun i _ => 5 - (intOf i).toNat)
      case atStart => exact ⟨0, by omega, rfl, Below.refl _ _⟩
      case round =>
      obtain ⟨q, hq, rfl, hB5⟩ := hrel
      have hXB := HX.out.mono (C := 1152921504606846976) (by omega)
      have cW : ∀ wx, Below wr.heap.size wr wx → (wx.cell? ⟨gx, 0, none⟩ = some (.int .i64 X.a) ∧ wx.cell? ⟨gx, 1, none⟩ = some (.int .i64 X.b) ∧ wx.cell? ⟨gx, 2, none⟩ = some (.int .i64 X.c) ∧ wx.cell? ⟨gx, 3, none⟩ = some (.int .i64 X.d)) := fun wx bx => c8 _ (below_then hB5 bx)
      by_cases hlt : q < 5
      · obtain ⟨F, hF⟩ : ∃ F, X.from q = F := ⟨_, rfl⟩
        obtain ⟨G, hG⟩ : ∃ F, X.from ((q : Int) + 1) = F := ⟨_, rfl⟩
        have hFG := BkT.from_mono HX.out (j := (q : Int)) (k := (q : Int) + 1) (by omega)
        rw [hF, hG] at hFG
        have P5 : Hid (_) := from_k hF hXB (by omega) (by omega)
        have P6 : Hid (_) := from_k hG hXB (by omega) (by omega)
        clear hF hG hXB
        have u1 := wrap_in ((q : Int) + 1) (by omega) (by omega)
        go_upto_region 36 with fail
        have hB : Below wr.heap.size wr wr.drew := (Below.refl _ _).drew
        go_region_held3 (fun wx => Below wr.heap.size wr wx ∧ (wx.cell? ⟨gx, 0, none⟩ = some (.int .i64 X.a) ∧ wx.cell? ⟨gx, 1, none⟩ = some (.int .i64 X.b) ∧ wx.cell? ⟨gx, 2, none⟩ = some (.int .i64 X.c) ∧ wx.cell? ⟨gx, 3, none⟩ = some (.int .i64 X.d))) (exact held (cW _) hB) (first | (with_reducible refine P5.out _ _ (fun wl2 bn => ?_); replace hB := below_then hB bn) | (with_reducible refine P6.out _ _ (fun wl2 bn => ?_); replace hB := below_then hB bn))
        go_wp2
        go_roundw
        case rel => exact ⟨q + 1, by omega, by go_num, below_then hB5 hB⟩
        case measure => simp [intOf]; omega
      · obtain rfl : q = 5 := by omega
        rw [show ((5 : Nat) : Int) = 5 from rfl]
        obtain ⟨S, hS⟩ : ∃ F, X.all = F := ⟨_, rfl⟩
        have P1 : Hid (_) := from_k (k := -1) ((X.from_zero (-1) (by omega)).trans hS) hXB (by omega) (by omega)
        have P2 : Hid (_) := ball_k hS hXB
        have P3 : Hid (_) := from_k (k := 4) (X.from_end 4 (by omega)) hXB (by omega) (by omega)
        have P4 : Hid (_) := lateRuns_k
        clear hS hXB HX
        go_upto_region 38 with fail
        have hB : Below wr.heap.size wr wr.drew := (Below.refl _ _).drew
        go_region_held3 (fun wx => Below wr.heap.size wr wx ∧ (wx.cell? ⟨gx, 0, none⟩ = some (.int .i64 X.a) ∧ wx.cell? ⟨gx, 1, none⟩ = some (.int .i64 X.b) ∧ wx.cell? ⟨gx, 2, none⟩ = some (.int .i64 X.c) ∧ wx.cell? ⟨gx, 3, none⟩ = some (.int .i64 X.d))) (exact held (cW _) hB) (first | (with_reducible refine P1.out _ _ (fun wl2 bn => ?_); replace hB := below_then hB bn) | (with_reducible refine P2.out _ _ (fun wl2 bn => ?_); replace hB := below_then hB bn) | (with_reducible refine P3.out _ _ (fun wl2 bn => ?_); replace hB := below_then hB bn) | (with_reducible refine P4.out _ _ (fun wl2 bn => ?_); replace hB := below_then hB bn))
        go_wp2
        go_ret
        exact ⟨rfl, below_then (below_then b8 hB5) hB⟩
theorem lateMoves_law (v0 v1 v2 : Value) (w : World) (w0 : Arg w (.slice 1 (.int .i64)) v0) (w1 : Arg w (.slice 1 (.int .i64)) v1) (w2 : Arg w (.int .i64) v2) :
    Calls Try.prog 6 #[v0, v1, v2] w fun e w' => e = .returned (.bool true) ∧ Below w.heap.size w w' := by
  obtain ⟨bs, h0, _⟩ := arg_ints w0
  obtain ⟨ms, h1, _⟩ := arg_ints w1
  obtain ⟨n2, rfl, _⟩ := arg_int w2
  exact lateMoves_any v0 v1 bs ms n2 w h0 h1
end Go.Proofs.Ytbppaomenhdjeaa
