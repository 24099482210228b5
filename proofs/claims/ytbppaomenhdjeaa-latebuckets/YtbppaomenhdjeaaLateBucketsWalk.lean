/-
  The walk of LateBuckets.
-/
import Derived.Test.YtbppaomenhdjeaaLateG
import Derived.Test.YtbppaomenhdjeaaRefLate
import Derived.Test.YtbppaomenhdjeaaRefBal
namespace Go.Proofs.Ytbppaomenhdjeaa
open Go.RowKit

theorem refBuckets_k {v : Value} {xs : List LoanP} {X : BkT} {W : World} (e : bkts xs = X) (h : Lies 5 LoanP.f W v xs) (ha : ∀ x ∈ xs, 0 ≤ x.bal ∧ x.bal ≤ 1099511627776) (ht : ∀ x ∈ xs, 0 ≤ x.late) (hl : xs.length ≤ 1000) : ∀ (w : World) (R : Ending → World → Prop), Below W.heap.size W w → (∀ w', Below w.heap.size w w' → R (.returned (.agg #[.int .i64 X.a, .int .i64 X.b, .int .i64 X.c, .int .i64 X.d])) w') → Calls Try.prog 12 #[v] w R := fun w R hb k =>
  (refBuckets_any v xs w (h.below hb) ha ht hl).mono fun e1 w' ⟨e2, b⟩ => by
    rw [e] at e2
    exact e2 ▸ k w' b
theorem refBal_k {v : Value} {xs : List LoanP} {S : Int} {W : World} (e : sumBy LoanP.bal xs = S) (h : Lies 5 LoanP.f W v xs) (hs : SumFits LoanP.bal xs) : ∀ (w : World) (R : Ending → World → Prop), Below W.heap.size W w → (∀ w', Below w.heap.size w w' → R (.returned (.int .i64 S)) w') → Calls Try.prog 15 #[v] w R := fun w R hb k =>
  (refBalance_any v xs w (h.below hb) hs).mono fun e1 w' ⟨e2, b⟩ => by
    rw [e] at e2
    exact e2 ▸ k w' b

set_option maxRecDepth 1000000 in
set_option maxHeartbeats 8000000 in
theorem lateBuckets_any (v0 v1 : Value) (bs ms : List Int) (cut kf : Int) (w : World) (h0 : Lies 1 intF w v0 bs) (h1 : Lies 1 intF w v1 ms) (hk0 : -9223372036854775808 ≤ kf) (hk1 : kf ≤ 9223372036854775807) :
    Calls Try.prog 4 #[v0, v1, .int .i64 cut, .int .i64 kf] w fun e w' => e = .returned (.bool true) ∧ Below w.heap.size w w' := by
  obtain ⟨i0, hi, hz0, hz1, hz2⟩ := info_parts Try.info_loan
  obtain ⟨i9, ri, rz0, rz1, rz2⟩ := info_parts Try.info_rloan
  obtain ⟨a0, c0, rfl, _, _, _, _⟩ := id h0
  obtain ⟨a1, c1, rfl, _, _, _, _⟩ := id h1
  have hl0 := h0.len
  have hl1 := h1.len
  unfold maxLen at hl0 hl1
  obtain ⟨n0, hn0⟩ : ∃ n, bs.length = n := ⟨_, rfl⟩
  obtain ⟨n1, hn1⟩ : ∃ n, ms.length = n := ⟨_, rfl⟩
  rw [hn0] at h0 hl0 ⊢
  rw [hn1] at h1 hl1 ⊢
  obtain ⟨gl, hg⟩ : ∃ gl, mkL 17179869184 12 bs ms = gl := ⟨_, rfl⟩
  have HG : Hid (∀ i, 0 + bs.getD i 0 % (17179869184 - 0 + 1) = (gl i).bal ∧ (i < n1 → 0 + ms.getD i 0 % (12 - 0 + 1) = (gl i).late) ∧ (¬ i < n1 → (gl i).late = 0) ∧ gl i = ⟨0, (gl i).bal, 0, (gl i).late, false⟩) := by
    intro i
    subst hg
    refine ⟨rfl, fun h => ?_, fun h => ?_, rfl⟩
    · unfold mkL; simp only; rw [if_pos (by omega)]
    · unfold mkL; simp only; rw [if_neg (by omega)]
  have HGB : Hid (∀ i, 0 ≤ (gl i).bal ∧ (gl i).bal ≤ 17179869184) := by subst hg; exact mkL_bal (by omega)
  have HGL : Hid (∀ i, 0 ≤ (gl i).late ∧ (gl i).late ≤ 12) := by subst hg; exact mkL_late (by omega)
  have H0 : Hid (Lies 1 intF w (.slice a0 n0 c0) bs) := h0
  have H1 : Hid (Lies 1 intF w (.slice a1 n1 c1) ms) := h1
  have hm0 : n0 ≤ 9223372036854775807 := by omega
  have hm1 : n1 ≤ 9223372036854775807 := by omega
  clear h0 h1 hg hn0 hn1 hl0 hl1
  obtain ⟨n, hn⟩ : ∃ n, Nat.min n0 30 = n := ⟨_, rfl⟩
  have hnn : n ≤ n0 ∧ n ≤ 30 ∧ (n = n0 ∨ n = 30) := by rw [← hn]; show min n0 30 ≤ n0 ∧ min n0 30 ≤ 30 ∧ (min n0 30 = n0 ∨ min n0 30 = 30); omega
  clear hn
  go_enter Try.func4, Try.ntmps4
  go_wp2
  go_loopw [9, 10, 11] (fun v y i wr => ∃ kf : Nat, kf ≤ n ∧ i = .int .i64 kf ∧ TwoL w wr v y kf kf gl) (fun _ _ i _ => n - (intOf i).toNat)
  case atStart => exact ⟨0, Nat.zero_le _, rfl, TwoL.nil w gl⟩
  case round =>
  obtain ⟨j, hj, rfl, hT⟩ := hrel
  have HT : Hid (TwoL w wr u9 u10 j j gl) := hT
  have hBw : Below w.heap.size w wr := hT.below
  clear hT
  go_upto_region 4 with fail
  go_cut [27] (fun c wx => c = .bool (decide (j < n)) ∧ wx = wr)
  case first =>
    by_cases q1 : j < n0
    · by_cases q2 : j < 30
      · have e : decide (j < n) = true := decide_eq_true (by omega)
        go_wp2
        go_meet
        case rel => exact ⟨by rw [e]; try (congr 1; simp; omega), by simp⟩
      · have e : decide (j < n) = false := decide_eq_false (by omega)
        go_wp2
        go_meet
        case rel => exact ⟨by rw [e]; try (congr 1; simp; omega), by simp⟩
    · have e : decide (j < n) = false := decide_eq_false (by omega)
      go_wp2
      go_meet
      case rel => exact ⟨by rw [e]; try (congr 1; simp; omega), by simp⟩
  case rest =>
  obtain ⟨rfl, hw⟩ := hcut
  have hw := hw.symm
  subst hw
  by_cases hlt : j < n
  · rw [decide_eq_true hlt]
    obtain ⟨b0, o0, rfl, cb⟩ := H0.out.int1 j (by omega)
    replace cb := cell_keep hBw cb
    have HB := HGB.out j
    have HL := HGL.out j
    obtain ⟨EB, EM1, EM2, EG⟩ := HG.out j
    obtain ⟨B, hB⟩ : ∃ B, (gl j).bal = B := ⟨_, rfl⟩
    obtain ⟨M, hM⟩ : ∃ M, (gl j).late = M := ⟨_, rfl⟩
    rw [hB] at HB EB EG
    rw [hM] at HL EM1 EM2 EG
    obtain ⟨z, hz⟩ : ∃ z, bs.getD j 0 = z := ⟨_, rfl⟩
    rw [hz] at cb EB
    obtain ⟨y, hy⟩ : ∃ z, ms.getD j 0 = z := ⟨_, rfl⟩
    rw [hy] at EM1
    have HY : Hid (ms.getD j 0 = y) := hy
    clear hz hy
    have EB : Hid (0 + z % (17179869184 - 0 + 1) = B) := EB
    have EG : Hid (gl j = ⟨0, B, 0, M, false⟩) := EG
    have EM1 : Hid (j < n1 → 0 + y % (12 - 0 + 1) = M) := EM1
    have EM2 : Hid (¬ j < n1 → M = 0) := EM2
    clear hB hM
    go_upto_region 7 with fail
    go_upto_if 33 with fail
    go_cut [12] (fun s wx => s = .int .i64 M ∧ wx = wr)
    case first =>
      by_cases q1 : j < n1
      · obtain ⟨b1, o1, rfl, cm⟩ := H1.out.int1 j q1
        rw [HY.out] at cm
        replace cm := cell_keep hBw cm
        go_wp2_with (go_at_call_of 11 (y); refine (within_any _ _ _ (by omega) (by omega) (by omega) (by omega) _).mono ?_; rintro e wq ⟨rfl, hq⟩; have hq := hq.symm; subst hq; rw [(EM1.out q1)])
        go_meet
        case rel => exact ⟨rfl, by simp⟩
      · go_wp2
        go_meet
        case rel => exact ⟨by rw [EM2.out q1], by simp⟩
    case rest =>
    obtain ⟨rfl, hw⟩ := hcut
    have hw := hw.symm
    subst hw
    have OW : Hid (∀ wz, Below wr.heap.size wr wz → (wz.alloc (.cells #[.int .i64 0, .int .i64 B, .int .i64 0, .int .i64 M, .bool false] 29)).ownsRow w.heap.size 29 5 u9 j ((mkLs gl j).flatMap LoanP.f) ∧ Src (wz.alloc (.cells #[.int .i64 0, .int .i64 B, .int .i64 0, .int .i64 M, .bool false] 29)) (.slice (some ⟨wz.heap.size, 0, none⟩) 1 1) 1 (LoanP.f ⟨0, B, 0, M, false⟩) ∧ w.heap.size ≤ (wz.alloc (.cells #[.int .i64 0, .int .i64 B, .int .i64 0, .int .i64 M, .bool false] 29)).heap.size) := fun wz hb =>
      ⟨(own_below HT.out.now hb).alloc _, src_new wz _ 1 _, (below_alloc (below_then HT.out.below hb) _).size⟩
    go_upto_region 11 with (first
      | (go_at_call_of 11 (z); refine (within_any _ _ _ (by omega) (by omega) (by omega) (by omega) _).mono ?_; rintro e wq ⟨rfl, hq⟩; have hq := hq.symm; subst hq; rw [(EB.out)])
      | (go_at_call 10; refine (mkLoan_any _ _ _).mono ?_; rintro e w1 ⟨rfl, d1⟩; unfold LoanP.v)
      | (refine wpList_append_src rfl (.tmp 44) (.tmp 48) 33 rfl w.heap.size 29 i0 (.agg #[.int .i64 0, .int .i64 0, .int .i64 0, .int .i64 0, .bool false]) 5 40 Try.underlying33 hi hz0 hz1 hz2 rfl (by decide) u9 j ((mkLs gl j).flatMap LoanP.f) rfl (OW.out w1 d1).1 (.slice (some ⟨w1.heap.size, 0, none⟩) 1 1) 1 (LoanP.f ⟨0, B, 0, M, false⟩) rfl (OW.out w1 d1).2.1 rfl (LoanP.one _) (by unfold maxLen; omega) (by omega) (OW.out w1 d1).2.2 ?_; intro v' w2 ow gr ob))
    have hT2 : TwoL w w2 v' u10 (j + 1) j gl := (HT.out.then (below_alloc d1 _)).now1 (by rw [EG.out]; exact ow) gr ob
    refine wp_letter (fun wx => TwoL w wx v' u10 (j + 1) j gl) hT2 ?_
    clear hT2 ow gr ob HT OW d1 cb hBw
    intro W hT
    have HT : Hid (TwoL w W v' u10 (j + 1) j gl) := hT
    have hBw : Below w.heap.size w W := hT.below
    clear hT
    have OW : Hid ((W.alloc (.cells #[.int .i64 0, .int .i64 B, .int .i64 0, .int .i64 M, .bool false] 37)).ownsRow w.heap.size 37 5 u10 j ((mkLs gl j).flatMap LoanP.f) ∧ Src (W.alloc (.cells #[.int .i64 0, .int .i64 B, .int .i64 0, .int .i64 M, .bool false] 37)) (.slice (some ⟨W.heap.size, 0, none⟩) 1 1) 1 (LoanP.f ⟨0, B, 0, M, false⟩) ∧ w.heap.size ≤ (W.alloc (.cells #[.int .i64 0, .int .i64 B, .int .i64 0, .int .i64 M, .bool false] 37)).heap.size) :=
      ⟨HT.out.own.alloc _, src_new W _ 1 _, (below_alloc HT.out.below _).size⟩
    go_upto_region 5 with (refine wpList_append_src rfl (.tmp 50) (.tmp 54) 34 rfl w.heap.size 37 i9 (.agg #[.int .i64 0, .int .i64 0, .int .i64 0, .int .i64 0, .bool false]) 5 40 Try.underlying34 ri rz0 rz1 rz2 rfl (by decide) u10 j ((mkLs gl j).flatMap LoanP.f) rfl OW.out.1 (.slice (some ⟨W.heap.size, 0, none⟩) 1 1) 1 (LoanP.f ⟨0, B, 0, M, false⟩) rfl OW.out.2.1 rfl (LoanP.one _) (by unfold maxLen; omega) (by omega) OW.out.2.2 ?_; intro y' w3 ow gr ob)
    have HT3 : Hid (TwoL w w3 v' y' (j + 1) (j + 1) gl) := (HT.out.then (below_alloc (Below.refl _ _) _)).own1 (by rw [EG.out]; exact ow) gr ob
    clear ow gr ob OW
    go_wp2
    go_roundw
    case rel => exact ⟨j + 1, by omega, by go_num, HT3.out⟩
    case measure => simp [intOf]; omega
  · obtain rfl : n = j := by omega
    rw [decide_eq_false hlt]
    obtain ⟨wl, hwl⟩ : ∃ wl, wl = wr := ⟨_, rfl⟩
    subst hwl
    have hT := HT.out
    obtain ⟨xs, hxs⟩ : ∃ xs, mkLs gl n = xs := ⟨_, rfl⟩
    have hN : xs.length = n := by rw [← hxs]; exact mkLs_len gl n
    have hlies := own_lies LoanP.len hT.now (mkLs_len gl n)
    have hlie2 := own_lies LoanP.len hT.own (mkLs_len gl n)
    have hO := hT.now
    have bW := hT.below
    have hA : ∀ x ∈ xs, 0 ≤ x.bal ∧ x.bal ≤ 17179869184 := by rw [← hxs]; exact mkLs_mem HGB.out
    have hA0 : ∀ x ∈ xs, 0 ≤ x.late := by rw [← hxs]; exact mkLs_mem (fun i => (HGL.out i).1)
    rw [hxs] at hlies hlie2 hO
    clear hxs hT HT HG HGB HGL hi hz0 hz1 hz2 ri rz0 rz1 rz2 hlt hBw
    obtain ⟨a, cap, rfl, _, hcm, hz, _⟩ := id hlies
    obtain ⟨a2, cap2, rfl, _, _, _, _⟩ := id hlie2
    rw [hN] at hlies hlie2 hO ⊢
    unfold maxLen at hcm
    have HL : Hid (Lies 5 LoanP.f wl (.slice a n cap) xs) := hlies
    have HR : Hid (Lies 5 LoanP.f wl (.slice a2 n cap2) xs) := hlie2
    have HN : Hid (xs.length = n) := hN
    have HO : Hid (∃ B, wl.ownsRow B 29 5 (.slice a n cap) n (xs.flatMap LoanP.f)) := ⟨_, hO⟩
    obtain ⟨kn, hkn⟩ := Int.eq_ofNat_of_zero_le (Int.emod_nonneg cut (b := (n : Int) - 0 + 1) (by omega))
    have hkl : kn ≤ n := by
      have := Int.emod_lt_of_pos cut (b := (n : Int) - 0 + 1) (by omega)
      omega
    have E1 : Hid (0 + cut % ((n : Int) - 0 + 1) = (kn : Int)) := by show _ = _; omega
    have hm : n ≤ 9223372036854775807 := by omega
    have HA9 : Hid (∀ x ∈ xs, 0 ≤ x.bal ∧ x.bal ≤ 17179869184) := hA
    have HT9 : Hid (∀ x ∈ xs, 0 ≤ x.late) := hA0
    replace hA : ∀ x ∈ xs, 0 ≤ x.bal ∧ x.bal ≤ 1099511627776 := fun x hx => ⟨(hA x hx).1, by have := (hA x hx).2; omega⟩
    clear hkn hO hlies hlie2 hz hA0
    go_upto_region 13 with (go_at_call_of 11 (cut); refine (within_any _ _ _ (by omega) (by omega) (by omega) (by omega) _).mono ?_; rintro e wq ⟨rfl, hq⟩; have hq := hq.symm; subst hq; rw [(E1.out)])
    obtain ⟨X, eX⟩ : ∃ X, bkts xs = X := ⟨_, rfl⟩
    obtain ⟨Y, eY⟩ : ∃ X, bkts (xs.take kn) = X := ⟨_, rfl⟩
    obtain ⟨Z, eZ⟩ : ∃ X, bkts (xs.drop kn) = X := ⟨_, rfl⟩
    have EX : Hid (bkts xs = X) := eX
    have EY : Hid (bkts (xs.take kn) = Y) := eY
    have EZ : Hid (bkts (xs.drop kn) = Z) := eZ
    have HA : Hid ((∀ x ∈ xs, 0 ≤ x.bal ∧ x.bal ≤ 1099511627776) ∧ xs.length ≤ 1000) := ⟨hA, by omega⟩
    have HA2 : Hid ((∀ x ∈ xs.take kn, 0 ≤ x.bal ∧ x.bal ≤ 1099511627776) ∧ (xs.take kn).length ≤ 1000) := ⟨fun x hx => hA x (List.mem_of_mem_take hx), by rw [List.length_take]; omega⟩
    have HA3 : Hid ((∀ x ∈ xs.drop kn, 0 ≤ x.bal ∧ x.bal ≤ 1099511627776) ∧ (xs.drop kn).length ≤ 1000) := ⟨fun x hx => hA x (List.mem_of_mem_drop hx), by rw [List.length_drop]; omega⟩
    clear eX eY eZ hA hN
    go_cut [15, 16, 17] (fun p q r wx => ∃ (g h k : Nat), p = .pointer (some ⟨g, 0, none⟩) ∧ q = .pointer (some ⟨h, 0, none⟩) ∧ r = .pointer (some ⟨k, 0, none⟩) ∧ Below wl.heap.size wl wx ∧ Blk wx g 24 X.f ∧ Blk wx h 24 Y.f ∧ Blk wx k 24 Z.f)
    case first =>
      obtain ⟨_, ho⟩ := HO.out
      rcases ho.2 with ⟨hv, h0⟩ | ⟨g0, cp, cur, hv, _, _, hcp, hcm, _, _⟩
      · injection hv with e1 e2 e3
        subst e1 e2 e3
        obtain rfl : kn = 0 := by omega
        have HT : Hid (Lies 5 LoanP.f wl (.slice none 0 0) (xs.take 0)) := Lies.nil _ _ _
        have HD : Hid (Lies 5 LoanP.f wl (.slice none 0 0) (xs.drop 0)) := HL.out
        clear ho h0
        rw [show ((0 : Nat) : Int) = 0 from rfl]
        refine wp_region_ps [60, 61, 62, 63, 64, 65, 66, 67, 68, 69, 15, 16, 17] [fun v _ => v = (.slice none 0 0 : Value), fun v _ => v = (.agg #[.int .i64 X.a, .int .i64 X.b, .int .i64 X.c, .int .i64 X.d]), fun v _ => v = (.slice none 0 0 : Value), fun v _ => v = (.int .i64 0 : Value), fun v _ => v = (.slice none 0 0 : Value), fun v _ => v = (.agg #[.int .i64 Y.a, .int .i64 Y.b, .int .i64 Y.c, .int .i64 Y.d]), fun v _ => v = (.slice none 0 0 : Value), fun v _ => v = (.int .i64 0 : Value), fun v _ => v = (.slice none 0 0 : Value), fun v _ => v = (.agg #[.int .i64 Z.a, .int .i64 Z.b, .int .i64 Z.c, .int .i64 Z.d]), NewB wl.heap.size, NewB wl.heap.size, NewB wl.heap.size] [10, 11, 12] [0, 1, 2, 3, 4, 5, 6, 7, 8, 9, 10, 11, 12] #[true, true, true, true, true, true, true, true, true, true, true, true, true, false, false, false] 3 (by kernel_rfl) (by kernel_rfl) (by kernel_rfl) (by kernel_rfl) ?_ ?_ ?_
        · intro p hp
          simp only [List.mem_cons, List.not_mem_nil, or_false] at hp
          rcases hp with rfl | rfl | rfl | rfl | rfl | rfl | rfl | rfl | rfl | rfl | rfl | rfl | rfl <;> first | exact newB_bears _ | exact bears_is _
        · have bD : Below wl.heap.size wl wl.drew := (Below.refl _ _).drew
          refine StepsF.cons rfl rfl (fun x wx hB hF K hK => ?_) ?_
          · (simp only [acts, Act.put, List.getD_cons_zero, List.getD_cons_succ, List.setIfInBounds_toArray, List.set_cons_zero, List.set_cons_succ]; go_simp; refine hK.out _ _ (after_mk _ ?_ (Below.refl _ _) rfl (fun h => absurd h (by decide))); simp only [acts, Act.put, List.getD_cons_zero, List.getD_cons_succ, List.setIfInBounds_toArray, List.set_cons_zero, List.set_cons_succ])
          refine StepsF.cons rfl rfl (fun x wx hB hF K hK => ?_) ?_
          · have q1 : Lies 5 LoanP.f wx (x 0) xs := by
              rw [show x 0 = _ from hF 0 (by decide) (by kernel_rfl)]
              exact HL.out.below (below_then bD hB)
            simp only [acts, Act.put, List.getD_cons_zero, List.getD_cons_succ, List.setIfInBounds_toArray, List.set_cons_zero, List.set_cons_succ]
            go_simp
            refine lof_e EX.out q1 HA.out.1 HA.out.2 (fun wy hb => ?_)
            (refine hK.out _ _ (after_mk _ ?_ hb rfl (fun h => absurd h (by decide))); simp only [acts, Act.put, List.getD_cons_zero, List.getD_cons_succ, List.setIfInBounds_toArray, List.set_cons_zero, List.set_cons_succ])
          refine StepsF.cons rfl rfl (fun x wx hB hF K hK => ?_) ?_
          · (simp only [acts, Act.put, List.getD_cons_zero, List.getD_cons_succ, List.setIfInBounds_toArray, List.set_cons_zero, List.set_cons_succ]; go_simp; refine hK.out _ _ (after_mk _ ?_ (Below.refl _ _) rfl (fun h => absurd h (by decide))); simp only [acts, Act.put, List.getD_cons_zero, List.getD_cons_succ, List.setIfInBounds_toArray, List.set_cons_zero, List.set_cons_succ])
          refine StepsF.cons rfl rfl (fun x wx hB hF K hK => ?_) ?_
          · (simp only [acts, Act.put, List.getD_cons_zero, List.getD_cons_succ, List.setIfInBounds_toArray, List.set_cons_zero, List.set_cons_succ]; go_simp; refine hK.out _ _ (after_mk _ ?_ (Below.refl _ _) rfl (fun h => absurd h (by decide))); simp only [acts, Act.put, List.getD_cons_zero, List.getD_cons_succ, List.setIfInBounds_toArray, List.set_cons_zero, List.set_cons_succ])
          refine StepsF.cons rfl rfl (fun x wx hB hF K hK => ?_) ?_
          · have f1 : x 2 = .slice none 0 0 := hF 2 (by decide) (by kernel_rfl)
            have f2 : x 3 = .int .i64 0 := hF 3 (by decide) (by kernel_rfl)
            simp only [acts, Act.put, List.getD_cons_zero, List.getD_cons_succ, List.setIfInBounds_toArray, List.set_cons_zero, List.set_cons_succ]
            go_simp
            refine hK.out _ _ (after_mk (.slice none 0 0) ?_ (Below.refl _ _) rfl (fun h => absurd h (by decide)))
            simp only [acts, Act.put, List.getD_cons_zero, List.getD_cons_succ, List.setIfInBounds_toArray, List.set_cons_zero, List.set_cons_succ]
            try simp only [f1, f2]
          refine StepsF.cons rfl rfl (fun x wx hB hF K hK => ?_) ?_
          · have q1 : Lies 5 LoanP.f wx (x 4) (xs.take 0) := by
              rw [show x 4 = _ from hF 4 (by decide) (by kernel_rfl)]
              exact HT.out.below (below_then bD hB)
            simp only [acts, Act.put, List.getD_cons_zero, List.getD_cons_succ, List.setIfInBounds_toArray, List.set_cons_zero, List.set_cons_succ]
            go_simp
            refine lof_e EY.out q1 HA2.out.1 HA2.out.2 (fun wy hb => ?_)
            (refine hK.out _ _ (after_mk _ ?_ hb rfl (fun h => absurd h (by decide))); simp only [acts, Act.put, List.getD_cons_zero, List.getD_cons_succ, List.setIfInBounds_toArray, List.set_cons_zero, List.set_cons_succ])
          refine StepsF.cons rfl rfl (fun x wx hB hF K hK => ?_) ?_
          · (simp only [acts, Act.put, List.getD_cons_zero, List.getD_cons_succ, List.setIfInBounds_toArray, List.set_cons_zero, List.set_cons_succ]; go_simp; refine hK.out _ _ (after_mk _ ?_ (Below.refl _ _) rfl (fun h => absurd h (by decide))); simp only [acts, Act.put, List.getD_cons_zero, List.getD_cons_succ, List.setIfInBounds_toArray, List.set_cons_zero, List.set_cons_succ])
          refine StepsF.cons rfl rfl (fun x wx hB hF K hK => ?_) ?_
          · (simp only [acts, Act.put, List.getD_cons_zero, List.getD_cons_succ, List.setIfInBounds_toArray, List.set_cons_zero, List.set_cons_succ]; go_simp; refine hK.out _ _ (after_mk _ ?_ (Below.refl _ _) rfl (fun h => absurd h (by decide))); simp only [acts, Act.put, List.getD_cons_zero, List.getD_cons_succ, List.setIfInBounds_toArray, List.set_cons_zero, List.set_cons_succ])
          refine StepsF.cons rfl rfl (fun x wx hB hF K hK => ?_) ?_
          · have f1 : x 6 = .slice none 0 0 := hF 6 (by decide) (by kernel_rfl)
            have f2 : x 7 = .int .i64 0 := hF 7 (by decide) (by kernel_rfl)
            simp only [acts, Act.put, List.getD_cons_zero, List.getD_cons_succ, List.setIfInBounds_toArray, List.set_cons_zero, List.set_cons_succ]
            go_simp
            refine hK.out _ _ (after_mk (.slice none 0 0) ?_ (Below.refl _ _) rfl (fun h => absurd h (by decide)))
            simp only [acts, Act.put, List.getD_cons_zero, List.getD_cons_succ, List.setIfInBounds_toArray, List.set_cons_zero, List.set_cons_succ]
            try simp only [f1, f2]
          refine StepsF.cons rfl rfl (fun x wx hB hF K hK => ?_) ?_
          · have q1 : Lies 5 LoanP.f wx (x 8) (xs.drop 0) := by
              rw [show x 8 = _ from hF 8 (by decide) (by kernel_rfl)]
              exact HD.out.below (below_then bD hB)
            simp only [acts, Act.put, List.getD_cons_zero, List.getD_cons_succ, List.setIfInBounds_toArray, List.set_cons_zero, List.set_cons_succ]
            go_simp
            refine lof_e EZ.out q1 HA3.out.1 HA3.out.2 (fun wy hb => ?_)
            (refine hK.out _ _ (after_mk _ ?_ hb rfl (fun h => absurd h (by decide))); simp only [acts, Act.put, List.getD_cons_zero, List.getD_cons_succ, List.setIfInBounds_toArray, List.set_cons_zero, List.set_cons_succ])
          refine StepsF.cons rfl rfl (fun x wx hB hF K hK => ?_) ?_
          · (have q1 : Below wl.heap.size wl wx := (below_then bD hB); simp only [acts, Act.put, List.getD_cons_zero, List.getD_cons_succ, List.setIfInBounds_toArray, List.set_cons_zero, List.set_cons_succ]; go_simp; refine hK.out _ _ (after_mk _ ?_ (below_alloc (Below.refl _ _) _) (⟨_, rfl, q1.size, Blk.fresh _ _ BkT.zero.f⟩ : NewB wl.heap.size _ _) (fun _ k hk hf => ?_)); (· simp only [acts, Act.put, List.getD_cons_zero, List.getD_cons_succ, List.setIfInBounds_toArray, List.set_cons_zero, List.set_cons_succ]); (· simp only [List.mem_cons, List.not_mem_nil, or_false] at hk; rcases hk with rfl | rfl | rfl <;> exact newB_ne (N := wl.heap.size) hf))
          refine StepsF.cons rfl rfl (fun x wx hB hF K hK => ?_) ?_
          · (have q1 : Below wl.heap.size wl wx := (below_then bD hB); simp only [acts, Act.put, List.getD_cons_zero, List.getD_cons_succ, List.setIfInBounds_toArray, List.set_cons_zero, List.set_cons_succ]; go_simp; refine hK.out _ _ (after_mk _ ?_ (below_alloc (Below.refl _ _) _) (⟨_, rfl, q1.size, Blk.fresh _ _ BkT.zero.f⟩ : NewB wl.heap.size _ _) (fun _ k hk hf => ?_)); (· simp only [acts, Act.put, List.getD_cons_zero, List.getD_cons_succ, List.setIfInBounds_toArray, List.set_cons_zero, List.set_cons_succ]); (· simp only [List.mem_cons, List.not_mem_nil, or_false] at hk; rcases hk with rfl | rfl | rfl <;> exact newB_ne (N := wl.heap.size) hf))
          refine StepsF.cons rfl rfl (fun x wx hB hF K hK => ?_) ?_
          · (have q1 : Below wl.heap.size wl wx := (below_then bD hB); simp only [acts, Act.put, List.getD_cons_zero, List.getD_cons_succ, List.setIfInBounds_toArray, List.set_cons_zero, List.set_cons_succ]; go_simp; refine hK.out _ _ (after_mk _ ?_ (below_alloc (Below.refl _ _) _) (⟨_, rfl, q1.size, Blk.fresh _ _ BkT.zero.f⟩ : NewB wl.heap.size _ _) (fun _ k hk hf => ?_)); (· simp only [acts, Act.put, List.getD_cons_zero, List.getD_cons_succ, List.setIfInBounds_toArray, List.set_cons_zero, List.set_cons_succ]); (· simp only [List.mem_cons, List.not_mem_nil, or_false] at hk; rcases hk with rfl | rfl | rfl <;> exact newB_ne (N := wl.heap.size) hf))
          exact StepsF.nil
        · intro x wx hB hF hne fuel
          have q1 : Below wl.heap.size wl wx := below_then (Below.refl _ _).drew hB
          have v1 : x 1 = (.agg #[.int .i64 X.a, .int .i64 X.b, .int .i64 X.c, .int .i64 X.d]) := hF 1 (by decide)
          have v5 : x 5 = (.agg #[.int .i64 Y.a, .int .i64 Y.b, .int .i64 Y.c, .int .i64 Y.d]) := hF 5 (by decide)
          have v9 : x 9 = (.agg #[.int .i64 Z.a, .int .i64 Z.b, .int .i64 Z.c, .int .i64 Z.d]) := hF 9 (by decide)
          have key := new3_of (N := wl.heap.size) (hF 10 (by decide)) (hF 11 (by decide)) (hF 12 (by decide)) (hne 10 (by decide) 11 (by decide) (by decide)) (hne 10 (by decide) 12 (by decide) (by decide)) (hne 11 (by decide) 12 (by decide) (by decide))
          clear hB hF hne
          refine Exists.elim key ?_
          intro m hE
          have kg := hE.bg
          have kh := hE.bh
          have kk := hE.bk
          simp only [acts, Act.put, List.getD_cons_zero, List.getD_cons_succ, List.setIfInBounds_toArray, List.set_cons_zero, List.set_cons_succ]
          rw [v1, v5, v9, hE.p, hE.q, hE.r]
          have HE : Hid (New3 wl.heap.size wx (x 10) (x 11) (x 12) m.1 m.2.1 m.2.2) := hE
          clear hE key v1 v5 v9
          generalize m.1 = g at *
          generalize m.2.1 = h at *
          generalize m.2.2 = k at *
          (have f0 := kg.frozen 0; have f1 := kg.frozen 1; have f2 := kg.frozen 2; have f3 := kg.frozen 3; have c0 := kg.cell 0 _ rfl; have c1 := kg.cell 1 _ rfl; have c2 := kg.cell 2 _ rfl; have c3 := kg.cell 3 _ rfl; refine wpAny_ready (rs := [13]) (by kernel_rfl) (by simp) ?_; refine AllReady.cons rfl (fun K hK => ?_) AllReady.nil; go_simp; refine hK _ _ ?_; clear hK K f0 f1 f2 f3 c0 c1 c2 c3)
          refine wpAny_letter (fun wz => Below wl.heap.size wl wz ∧ Blk wz g 24 X.f ∧ Blk wz h 24 BkT.zero.f ∧ Blk wz k 24 BkT.zero.f) ⟨((((q1.setCell HE.out.ng _).setCell HE.out.ng _).setCell HE.out.ng _).setCell HE.out.ng _), ((((kg.set 0 _).set 1 _).set 2 _).set 3 _), ((((kh.set_other _ 0 HE.out.gh.symm _).set_other _ 1 HE.out.gh.symm _).set_other _ 2 HE.out.gh.symm _).set_other _ 3 HE.out.gh.symm _), ((((kk.set_other _ 0 HE.out.gk.symm _).set_other _ 1 HE.out.gk.symm _).set_other _ 2 HE.out.gk.symm _).set_other _ 3 HE.out.gk.symm _)⟩ ?_
          clear q1 kg kh kk
          intro wz hz
          have q1 := hz.1
          have kg := hz.2.1
          have kh := hz.2.2.1
          have kk := hz.2.2.2
          clear hz
          (have f0 := kh.frozen 0; have f1 := kh.frozen 1; have f2 := kh.frozen 2; have f3 := kh.frozen 3; have c0 := kh.cell 0 _ rfl; have c1 := kh.cell 1 _ rfl; have c2 := kh.cell 2 _ rfl; have c3 := kh.cell 3 _ rfl; refine wpAny_ready (rs := [14]) (by kernel_rfl) (by simp) ?_; refine AllReady.cons rfl (fun K hK => ?_) AllReady.nil; go_simp; refine hK _ _ ?_; clear hK K f0 f1 f2 f3 c0 c1 c2 c3)
          refine wpAny_letter (fun wz => Below wl.heap.size wl wz ∧ Blk wz g 24 X.f ∧ Blk wz h 24 Y.f ∧ Blk wz k 24 BkT.zero.f) ⟨((((q1.setCell HE.out.nh _).setCell HE.out.nh _).setCell HE.out.nh _).setCell HE.out.nh _), ((((kg.set_other _ 0 HE.out.gh _).set_other _ 1 HE.out.gh _).set_other _ 2 HE.out.gh _).set_other _ 3 HE.out.gh _), ((((kh.set 0 _).set 1 _).set 2 _).set 3 _), ((((kk.set_other _ 0 HE.out.hk.symm _).set_other _ 1 HE.out.hk.symm _).set_other _ 2 HE.out.hk.symm _).set_other _ 3 HE.out.hk.symm _)⟩ ?_
          clear q1 kg kh kk
          clear wz
          intro wz hz
          have q1 := hz.1
          have kg := hz.2.1
          have kh := hz.2.2.1
          have kk := hz.2.2.2
          clear hz
          (have f0 := kk.frozen 0; have f1 := kk.frozen 1; have f2 := kk.frozen 2; have f3 := kk.frozen 3; have c0 := kk.cell 0 _ rfl; have c1 := kk.cell 1 _ rfl; have c2 := kk.cell 2 _ rfl; have c3 := kk.cell 3 _ rfl; refine wpAny_ready (rs := [15]) (by kernel_rfl) (by simp) ?_; refine AllReady.cons rfl (fun K hK => ?_) AllReady.nil; go_simp; refine hK _ _ ?_; clear hK K f0 f1 f2 f3 c0 c1 c2 c3)
          refine wpAny_letter (fun wz => Below wl.heap.size wl wz ∧ Blk wz g 24 X.f ∧ Blk wz h 24 Y.f ∧ Blk wz k 24 Z.f) ⟨((((q1.setCell HE.out.nk _).setCell HE.out.nk _).setCell HE.out.nk _).setCell HE.out.nk _), ((((kg.set_other _ 0 HE.out.gk _).set_other _ 1 HE.out.gk _).set_other _ 2 HE.out.gk _).set_other _ 3 HE.out.gk _), ((((kh.set_other _ 0 HE.out.hk _).set_other _ 1 HE.out.hk _).set_other _ 2 HE.out.hk _).set_other _ 3 HE.out.hk _), ((((kk.set 0 _).set 1 _).set 2 _).set 3 _)⟩ ?_
          clear q1 kg kh kk
          clear wz
          intro wz hz
          refine wpAny_done (by kernel_rfl) ?_ _
          go_wp2_with fail
          go_meet
          case rel => exact ⟨g, h, k, rfl, rfl, rfl, hz.1, hz.2.1, hz.2.2.1, hz.2.2.2⟩
      · injection hv with e1 e2 e3
        subst e1
        subst e3
        unfold maxLen at hcm
        have k1 : (0 : Int) ≤ (kn : Int) := by omega
        have k2 : (kn : Int) ≤ (cap : Int) := by omega
        have k3 : (kn : Int) ≤ (n : Int) := by omega
        have k4 : (n : Int) ≤ (cap : Int) := by omega
        obtain ⟨A, hA⟩ : ∃ A, (if cap = kn then some (⟨g0, 0, none⟩ : Addr) else some ⟨g0, kn * 5, none⟩) = A := ⟨_, rfl⟩
        have HT : Hid (Lies 5 LoanP.f wl (.slice (some ⟨g0, 0, none⟩) kn cap) (xs.take kn)) := HL.out.take kn hkl
        have HD : Hid (Lies 5 LoanP.f wl (.slice A (n - kn) (cap - kn)) (xs.drop kn)) := HL.out.drop kn hkl A (by rw [← hA, Nat.zero_add])
        clear ho
        refine wp_region_ps [60, 61, 62, 63, 64, 65, 66, 67, 68, 69, 15, 16, 17] [fun v _ => v = (.slice (some ⟨g0, 0, none⟩) n cap : Value), fun v _ => v = (.agg #[.int .i64 X.a, .int .i64 X.b, .int .i64 X.c, .int .i64 X.d]), fun v _ => v = (.slice (some ⟨g0, 0, none⟩) n cap : Value), fun v _ => v = (.int .i64 (kn : Int) : Value), fun v _ => v = (.slice (some ⟨g0, 0, none⟩) kn cap : Value), fun v _ => v = (.agg #[.int .i64 Y.a, .int .i64 Y.b, .int .i64 Y.c, .int .i64 Y.d]), fun v _ => v = (.slice (some ⟨g0, 0, none⟩) n cap : Value), fun v _ => v = (.int .i64 (kn : Int) : Value), fun v _ => v = (.slice A (n - kn) (cap - kn) : Value), fun v _ => v = (.agg #[.int .i64 Z.a, .int .i64 Z.b, .int .i64 Z.c, .int .i64 Z.d]), NewB wl.heap.size, NewB wl.heap.size, NewB wl.heap.size] [10, 11, 12] [0, 1, 2, 3, 4, 5, 6, 7, 8, 9, 10, 11, 12] #[true, true, true, true, true, true, true, true, true, true, true, true, true, false, false, false] 3 (by kernel_rfl) (by kernel_rfl) (by kernel_rfl) (by kernel_rfl) ?_ ?_ ?_
        · intro p hp
          simp only [List.mem_cons, List.not_mem_nil, or_false] at hp
          rcases hp with rfl | rfl | rfl | rfl | rfl | rfl | rfl | rfl | rfl | rfl | rfl | rfl | rfl <;> first | exact newB_bears _ | exact bears_is _
        · have bD : Below wl.heap.size wl wl.drew := (Below.refl _ _).drew
          refine StepsF.cons rfl rfl (fun x wx hB hF K hK => ?_) ?_
          · (simp only [acts, Act.put, List.getD_cons_zero, List.getD_cons_succ, List.setIfInBounds_toArray, List.set_cons_zero, List.set_cons_succ]; go_simp; refine hK.out _ _ (after_mk _ ?_ (Below.refl _ _) rfl (fun h => absurd h (by decide))); simp only [acts, Act.put, List.getD_cons_zero, List.getD_cons_succ, List.setIfInBounds_toArray, List.set_cons_zero, List.set_cons_succ])
          refine StepsF.cons rfl rfl (fun x wx hB hF K hK => ?_) ?_
          · have q1 : Lies 5 LoanP.f wx (x 0) xs := by
              rw [show x 0 = _ from hF 0 (by decide) (by kernel_rfl)]
              exact HL.out.below (below_then bD hB)
            simp only [acts, Act.put, List.getD_cons_zero, List.getD_cons_succ, List.setIfInBounds_toArray, List.set_cons_zero, List.set_cons_succ]
            go_simp
            refine lof_e EX.out q1 HA.out.1 HA.out.2 (fun wy hb => ?_)
            (refine hK.out _ _ (after_mk _ ?_ hb rfl (fun h => absurd h (by decide))); simp only [acts, Act.put, List.getD_cons_zero, List.getD_cons_succ, List.setIfInBounds_toArray, List.set_cons_zero, List.set_cons_succ])
          refine StepsF.cons rfl rfl (fun x wx hB hF K hK => ?_) ?_
          · (simp only [acts, Act.put, List.getD_cons_zero, List.getD_cons_succ, List.setIfInBounds_toArray, List.set_cons_zero, List.set_cons_succ]; go_simp; refine hK.out _ _ (after_mk _ ?_ (Below.refl _ _) rfl (fun h => absurd h (by decide))); simp only [acts, Act.put, List.getD_cons_zero, List.getD_cons_succ, List.setIfInBounds_toArray, List.set_cons_zero, List.set_cons_succ])
          refine StepsF.cons rfl rfl (fun x wx hB hF K hK => ?_) ?_
          · (simp only [acts, Act.put, List.getD_cons_zero, List.getD_cons_succ, List.setIfInBounds_toArray, List.set_cons_zero, List.set_cons_succ]; go_simp; refine hK.out _ _ (after_mk _ ?_ (Below.refl _ _) rfl (fun h => absurd h (by decide))); simp only [acts, Act.put, List.getD_cons_zero, List.getD_cons_succ, List.setIfInBounds_toArray, List.set_cons_zero, List.set_cons_succ])
          refine StepsF.cons rfl rfl (fun x wx hB hF K hK => ?_) ?_
          · have f1 : x 2 = .slice (some ⟨g0, 0, none⟩) n cap := hF 2 (by decide) (by kernel_rfl)
            have f2 : x 3 = .int .i64 (kn : Int) := hF 3 (by decide) (by kernel_rfl)
            simp only [acts, Act.put, List.getD_cons_zero, List.getD_cons_succ, List.setIfInBounds_toArray, List.set_cons_zero, List.set_cons_succ]
            go_simp
            refine hK.out _ _ (after_mk (.slice (some ⟨g0, 0, none⟩) kn cap) ?_ (Below.refl _ _) rfl (fun h => absurd h (by decide)))
            simp only [acts, Act.put, List.getD_cons_zero, List.getD_cons_succ, List.setIfInBounds_toArray, List.set_cons_zero, List.set_cons_succ]
            try simp only [f1, f2]
          refine StepsF.cons rfl rfl (fun x wx hB hF K hK => ?_) ?_
          · have q1 : Lies 5 LoanP.f wx (x 4) (xs.take kn) := by
              rw [show x 4 = _ from hF 4 (by decide) (by kernel_rfl)]
              exact HT.out.below (below_then bD hB)
            simp only [acts, Act.put, List.getD_cons_zero, List.getD_cons_succ, List.setIfInBounds_toArray, List.set_cons_zero, List.set_cons_succ]
            go_simp
            refine lof_e EY.out q1 HA2.out.1 HA2.out.2 (fun wy hb => ?_)
            (refine hK.out _ _ (after_mk _ ?_ hb rfl (fun h => absurd h (by decide))); simp only [acts, Act.put, List.getD_cons_zero, List.getD_cons_succ, List.setIfInBounds_toArray, List.set_cons_zero, List.set_cons_succ])
          refine StepsF.cons rfl rfl (fun x wx hB hF K hK => ?_) ?_
          · (simp only [acts, Act.put, List.getD_cons_zero, List.getD_cons_succ, List.setIfInBounds_toArray, List.set_cons_zero, List.set_cons_succ]; go_simp; refine hK.out _ _ (after_mk _ ?_ (Below.refl _ _) rfl (fun h => absurd h (by decide))); simp only [acts, Act.put, List.getD_cons_zero, List.getD_cons_succ, List.setIfInBounds_toArray, List.set_cons_zero, List.set_cons_succ])
          refine StepsF.cons rfl rfl (fun x wx hB hF K hK => ?_) ?_
          · (simp only [acts, Act.put, List.getD_cons_zero, List.getD_cons_succ, List.setIfInBounds_toArray, List.set_cons_zero, List.set_cons_succ]; go_simp; refine hK.out _ _ (after_mk _ ?_ (Below.refl _ _) rfl (fun h => absurd h (by decide))); simp only [acts, Act.put, List.getD_cons_zero, List.getD_cons_succ, List.setIfInBounds_toArray, List.set_cons_zero, List.set_cons_succ])
          refine StepsF.cons rfl rfl (fun x wx hB hF K hK => ?_) ?_
          · have f1 : x 6 = .slice (some ⟨g0, 0, none⟩) n cap := hF 6 (by decide) (by kernel_rfl)
            have f2 : x 7 = .int .i64 (kn : Int) := hF 7 (by decide) (by kernel_rfl)
            simp only [acts, Act.put, List.getD_cons_zero, List.getD_cons_succ, List.setIfInBounds_toArray, List.set_cons_zero, List.set_cons_succ]
            go_simp
            refine hK.out _ _ (after_mk (.slice A (n - kn) (cap - kn)) ?_ (Below.refl _ _) rfl (fun h => absurd h (by decide)))
            simp only [acts, Act.put, List.getD_cons_zero, List.getD_cons_succ, List.setIfInBounds_toArray, List.set_cons_zero, List.set_cons_succ]
            try simp only [f1, f2]
          refine StepsF.cons rfl rfl (fun x wx hB hF K hK => ?_) ?_
          · have q1 : Lies 5 LoanP.f wx (x 8) (xs.drop kn) := by
              rw [show x 8 = _ from hF 8 (by decide) (by kernel_rfl)]
              exact HD.out.below (below_then bD hB)
            simp only [acts, Act.put, List.getD_cons_zero, List.getD_cons_succ, List.setIfInBounds_toArray, List.set_cons_zero, List.set_cons_succ]
            go_simp
            refine lof_e EZ.out q1 HA3.out.1 HA3.out.2 (fun wy hb => ?_)
            (refine hK.out _ _ (after_mk _ ?_ hb rfl (fun h => absurd h (by decide))); simp only [acts, Act.put, List.getD_cons_zero, List.getD_cons_succ, List.setIfInBounds_toArray, List.set_cons_zero, List.set_cons_succ])
          refine StepsF.cons rfl rfl (fun x wx hB hF K hK => ?_) ?_
          · (have q1 : Below wl.heap.size wl wx := (below_then bD hB); simp only [acts, Act.put, List.getD_cons_zero, List.getD_cons_succ, List.setIfInBounds_toArray, List.set_cons_zero, List.set_cons_succ]; go_simp; refine hK.out _ _ (after_mk _ ?_ (below_alloc (Below.refl _ _) _) (⟨_, rfl, q1.size, Blk.fresh _ _ BkT.zero.f⟩ : NewB wl.heap.size _ _) (fun _ k hk hf => ?_)); (· simp only [acts, Act.put, List.getD_cons_zero, List.getD_cons_succ, List.setIfInBounds_toArray, List.set_cons_zero, List.set_cons_succ]); (· simp only [List.mem_cons, List.not_mem_nil, or_false] at hk; rcases hk with rfl | rfl | rfl <;> exact newB_ne (N := wl.heap.size) hf))
          refine StepsF.cons rfl rfl (fun x wx hB hF K hK => ?_) ?_
          · (have q1 : Below wl.heap.size wl wx := (below_then bD hB); simp only [acts, Act.put, List.getD_cons_zero, List.getD_cons_succ, List.setIfInBounds_toArray, List.set_cons_zero, List.set_cons_succ]; go_simp; refine hK.out _ _ (after_mk _ ?_ (below_alloc (Below.refl _ _) _) (⟨_, rfl, q1.size, Blk.fresh _ _ BkT.zero.f⟩ : NewB wl.heap.size _ _) (fun _ k hk hf => ?_)); (· simp only [acts, Act.put, List.getD_cons_zero, List.getD_cons_succ, List.setIfInBounds_toArray, List.set_cons_zero, List.set_cons_succ]); (· simp only [List.mem_cons, List.not_mem_nil, or_false] at hk; rcases hk with rfl | rfl | rfl <;> exact newB_ne (N := wl.heap.size) hf))
          refine StepsF.cons rfl rfl (fun x wx hB hF K hK => ?_) ?_
          · (have q1 : Below wl.heap.size wl wx := (below_then bD hB); simp only [acts, Act.put, List.getD_cons_zero, List.getD_cons_succ, List.setIfInBounds_toArray, List.set_cons_zero, List.set_cons_succ]; go_simp; refine hK.out _ _ (after_mk _ ?_ (below_alloc (Below.refl _ _) _) (⟨_, rfl, q1.size, Blk.fresh _ _ BkT.zero.f⟩ : NewB wl.heap.size _ _) (fun _ k hk hf => ?_)); (· simp only [acts, Act.put, List.getD_cons_zero, List.getD_cons_succ, List.setIfInBounds_toArray, List.set_cons_zero, List.set_cons_succ]); (· simp only [List.mem_cons, List.not_mem_nil, or_false] at hk; rcases hk with rfl | rfl | rfl <;> exact newB_ne (N := wl.heap.size) hf))
          exact StepsF.nil
        · intro x wx hB hF hne fuel
          have q1 : Below wl.heap.size wl wx := below_then (Below.refl _ _).drew hB
          have v1 : x 1 = (.agg #[.int .i64 X.a, .int .i64 X.b, .int .i64 X.c, .int .i64 X.d]) := hF 1 (by decide)
          have v5 : x 5 = (.agg #[.int .i64 Y.a, .int .i64 Y.b, .int .i64 Y.c, .int .i64 Y.d]) := hF 5 (by decide)
          have v9 : x 9 = (.agg #[.int .i64 Z.a, .int .i64 Z.b, .int .i64 Z.c, .int .i64 Z.d]) := hF 9 (by decide)
          have key := new3_of (N := wl.heap.size) (hF 10 (by decide)) (hF 11 (by decide)) (hF 12 (by decide)) (hne 10 (by decide) 11 (by decide) (by decide)) (hne 10 (by decide) 12 (by decide) (by decide)) (hne 11 (by decide) 12 (by decide) (by decide))
          clear hB hF hne
          refine Exists.elim key ?_
          intro m hE
          have kg := hE.bg
          have kh := hE.bh
          have kk := hE.bk
          simp only [acts, Act.put, List.getD_cons_zero, List.getD_cons_succ, List.setIfInBounds_toArray, List.set_cons_zero, List.set_cons_succ]
          rw [v1, v5, v9, hE.p, hE.q, hE.r]
          have HE : Hid (New3 wl.heap.size wx (x 10) (x 11) (x 12) m.1 m.2.1 m.2.2) := hE
          clear hE key v1 v5 v9
          generalize m.1 = g at *
          generalize m.2.1 = h at *
          generalize m.2.2 = k at *
          (have f0 := kg.frozen 0; have f1 := kg.frozen 1; have f2 := kg.frozen 2; have f3 := kg.frozen 3; have c0 := kg.cell 0 _ rfl; have c1 := kg.cell 1 _ rfl; have c2 := kg.cell 2 _ rfl; have c3 := kg.cell 3 _ rfl; refine wpAny_ready (rs := [13]) (by kernel_rfl) (by simp) ?_; refine AllReady.cons rfl (fun K hK => ?_) AllReady.nil; go_simp; refine hK _ _ ?_; clear hK K f0 f1 f2 f3 c0 c1 c2 c3)
          refine wpAny_letter (fun wz => Below wl.heap.size wl wz ∧ Blk wz g 24 X.f ∧ Blk wz h 24 BkT.zero.f ∧ Blk wz k 24 BkT.zero.f) ⟨((((q1.setCell HE.out.ng _).setCell HE.out.ng _).setCell HE.out.ng _).setCell HE.out.ng _), ((((kg.set 0 _).set 1 _).set 2 _).set 3 _), ((((kh.set_other _ 0 HE.out.gh.symm _).set_other _ 1 HE.out.gh.symm _).set_other _ 2 HE.out.gh.symm _).set_other _ 3 HE.out.gh.symm _), ((((kk.set_other _ 0 HE.out.gk.symm _).set_other _ 1 HE.out.gk.symm _).set_other _ 2 HE.out.gk.symm _).set_other _ 3 HE.out.gk.symm _)⟩ ?_
          clear q1 kg kh kk
          intro wz hz
          have q1 := hz.1
          have kg := hz.2.1
          have kh := hz.2.2.1
          have kk := hz.2.2.2
          clear hz
          (have f0 := kh.frozen 0; have f1 := kh.frozen 1; have f2 := kh.frozen 2; have f3 := kh.frozen 3; have c0 := kh.cell 0 _ rfl; have c1 := kh.cell 1 _ rfl; have c2 := kh.cell 2 _ rfl; have c3 := kh.cell 3 _ rfl; refine wpAny_ready (rs := [14]) (by kernel_rfl) (by simp) ?_; refine AllReady.cons rfl (fun K hK => ?_) AllReady.nil; go_simp; refine hK _ _ ?_; clear hK K f0 f1 f2 f3 c0 c1 c2 c3)
          refine wpAny_letter (fun wz => Below wl.heap.size wl wz ∧ Blk wz g 24 X.f ∧ Blk wz h 24 Y.f ∧ Blk wz k 24 BkT.zero.f) ⟨((((q1.setCell HE.out.nh _).setCell HE.out.nh _).setCell HE.out.nh _).setCell HE.out.nh _), ((((kg.set_other _ 0 HE.out.gh _).set_other _ 1 HE.out.gh _).set_other _ 2 HE.out.gh _).set_other _ 3 HE.out.gh _), ((((kh.set 0 _).set 1 _).set 2 _).set 3 _), ((((kk.set_other _ 0 HE.out.hk.symm _).set_other _ 1 HE.out.hk.symm _).set_other _ 2 HE.out.hk.symm _).set_other _ 3 HE.out.hk.symm _)⟩ ?_
          clear q1 kg kh kk
          clear wz
          intro wz hz
          have q1 := hz.1
          have kg := hz.2.1
          have kh := hz.2.2.1
          have kk := hz.2.2.2
          clear hz
          (have f0 := kk.frozen 0; have f1 := kk.frozen 1; have f2 := kk.frozen 2; have f3 := kk.frozen 3; have c0 := kk.cell 0 _ rfl; have c1 := kk.cell 1 _ rfl; have c2 := kk.cell 2 _ rfl; have c3 := kk.cell 3 _ rfl; refine wpAny_ready (rs := [15]) (by kernel_rfl) (by simp) ?_; refine AllReady.cons rfl (fun K hK => ?_) AllReady.nil; go_simp; refine hK _ _ ?_; clear hK K f0 f1 f2 f3 c0 c1 c2 c3)
          refine wpAny_letter (fun wz => Below wl.heap.size wl wz ∧ Blk wz g 24 X.f ∧ Blk wz h 24 Y.f ∧ Blk wz k 24 Z.f) ⟨((((q1.setCell HE.out.nk _).setCell HE.out.nk _).setCell HE.out.nk _).setCell HE.out.nk _), ((((kg.set_other _ 0 HE.out.gk _).set_other _ 1 HE.out.gk _).set_other _ 2 HE.out.gk _).set_other _ 3 HE.out.gk _), ((((kh.set_other _ 0 HE.out.hk _).set_other _ 1 HE.out.hk _).set_other _ 2 HE.out.hk _).set_other _ 3 HE.out.hk _), ((((kk.set 0 _).set 1 _).set 2 _).set 3 _)⟩ ?_
          clear q1 kg kh kk
          clear wz
          intro wz hz
          refine wpAny_done (by kernel_rfl) ?_ _
          go_wp2_with fail
          go_meet
          case rel => exact ⟨g, h, k, rfl, rfl, rfl, hz.1, hz.2.1, hz.2.2.1, hz.2.2.2⟩
    case rest =>
      obtain ⟨W0, hW0⟩ : ∃ W0, W0 = wc := ⟨_, rfl⟩
      subst hW0
      obtain ⟨g, h, k, rfl, rfl, rfl, hW2, kg, kh, kk⟩ := hcut
      have bW2 : Below w.heap.size w W0 := below_then bW hW2
      have HR2 : Hid (Lies 5 LoanP.f W0 (.slice a2 n cap2) xs) := HR.out.below hW2
      have bX : X.Bd (1000 * 17179869184) := by
        rw [← EX.out]
        exact bkts_bd HA9.out 1000 HA.out.2 (by omega)
      have bY : Y.Bd (1000 * 1099511627776) := by
        rw [← EY.out]
        exact bkts_bd HA2.out.1 1000 HA2.out.2 (by omega)
      have bZ : Z.Bd (1000 * 1099511627776) := by
        rw [← EZ.out]
        exact bkts_bd HA3.out.1 1000 HA3.out.2 (by omega)
      have EYZ : Hid (∀ j, Y.at j + Z.at j = X.at j ∧ 0 ≤ Y.at j ∧ Y.at j ≤ 1000 * 1099511627776 ∧ 0 ≤ Z.at j ∧ Z.at j ≤ 1000 * 1099511627776 ∧ 0 ≤ X.acc kf j ∧ X.acc kf j ≤ j * (1000 * 17179869184) ∧ 0 ≤ X.at j ∧ X.at j ≤ 1000 * 17179869184) := fun j => by
        refine ⟨?_, (bY.at j).1, (bY.at j).2, (bZ.at j).1, (bZ.at j).2, (BkT.acc_bd bX kf j).1, (BkT.acc_bd bX kf j).2, (bX.at j).1, (bX.at j).2⟩
        rw [← BkT.at_plus, ← EY.out, ← EZ.out, ← bkts_append, List.take_append_drop, EX.out]
      have HX : Hid (X.Bd (1000 * 17179869184)) := bX
      have HFX : Hid (SumFits LoanP.bal xs) := SumFits.of 17179869184 HA9.out (by have := HN.out; omega) (by omega)
      have HSX : Hid (sumBy LoanP.bal xs = X.all) := by show _ = _; rw [← EX.out, bkts_all]
      clear HO HA2 HA3 EY EZ E1 bW hW2 HL bX bY bZ HR
      go_wp2
      go_loopw [18, 70] (fun s i wr => ∃ j : Nat, j ≤ 4 ∧ i = .int .i64 j ∧ s = .int .i64 (X.acc kf j) ∧ Below W0.heap.size W0 wr) (fun _ i _ => 4 - (intOf i).toNat)
      case atStart => exact ⟨0, by omega, rfl, rfl, Below.refl _ _⟩
      case round =>
      obtain ⟨j, hj, rfl, rfl, hB0⟩ := hrel
      by_cases hlt : j < 4
      · have cx := BkT.at_cell (kg.then hB0) j hlt
        have cy := BkT.at_cell (kh.then hB0) j hlt
        have cz := BkT.at_cell (kk.then hB0) j hlt
        obtain ⟨e1, e2, e3, e4, e5, e6, e7, e8, e9⟩ := EYZ.out j
        have NX : Hid (X.acc kf (j + 1) = if kf ≤ j then X.acc kf j + X.at j else X.acc kf j) := rfl
        rw [← e1] at cx e8 e9 NX
        obtain ⟨y, hy⟩ : ∃ y, Y.at j = y := ⟨_, rfl⟩
        obtain ⟨z, hz⟩ : ∃ y, Z.at j = y := ⟨_, rfl⟩
        obtain ⟨s, hs⟩ : ∃ y, X.acc kf j = y := ⟨_, rfl⟩
        rw [hy] at cx cy e2 e3 e8 e9 NX
        rw [hz] at cx cz e4 e5 e8 e9 NX
        rw [hs] at e6 e7 NX ⊢
        clear hy hz hs e1
        have e10 : (j : Int) * (1000 * 17179869184) ≤ 4 * (1000 * 17179869184) := by omega
        have NY : Hid (∀ q : Int, q = (if kf ≤ j then s + (y + z) else s) → q = X.acc kf (j + 1)) := fun q hq => hq.trans NX.out.symm
        clear NX
        go_upto_region 18 with fail
        go_quiet (fail)
        go_upto_if 83 with fail
        by_cases hk : kf ≤ j
        · go_wp2
          go_roundw
          case rel => exact ⟨j + 1, by omega, by go_num, by rw [← NY.out (s + (y + z)) (by rw [if_pos hk])], below_draws hB0 _⟩
          case measure => simp [intOf]; omega
        · go_wp2
          go_roundw
          case rel => exact ⟨j + 1, by omega, by go_num, by rw [← NY.out s (by rw [if_neg hk])], below_draws hB0 _⟩
          case measure => simp [intOf]; omega
      · obtain rfl : j = 4 := by omega
        rw [X.acc_four]
        obtain ⟨F, hF⟩ : ∃ F, X.from kf = F := ⟨_, rfl⟩
        obtain ⟨S, hS⟩ : ∃ F, X.all = F := ⟨_, rfl⟩
        have hSX := HSX.out
        rw [hS] at hSX
        rw [hF]
        have bX := HX.out.mono (C := 1152921504606846976) (by omega)
        have P1 : Hid (_) := refBuckets_k EX.out (HR2.out.below hB0) HA.out.1 HT9.out HA.out.2
        have P2 : Hid (_) := from_k hF bX hk0 hk1
        have P3 : Hid (_) := ball_k hS bX
        have P4 : Hid (_) := refBal_k hSX (HR2.out.below hB0) HFX.out
        have P5 : Hid (∀ (w : World) (R : Ending → World → Prop), (∀ w', Below w.heap.size w w' → R (.returned (.agg #[.int .i64 0, .int .i64 0, .int .i64 0, .int .i64 0])) w') → Calls Try.prog 9 #[.slice none 0 0] w R) := fun w R k => lof_e (xs := []) (X := BkT.zero) rfl (Lies.nil 5 LoanP.f w) (by simp) (by simp) k
        have P6 : Hid (_) := lateRuns_k
        have QE1 : ∀ wx : World, (Op.equalIn 10000 24 (.agg #[.int .i64 X.a, .int .i64 X.b, .int .i64 X.c, .int .i64 X.d]) (.agg #[.int .i64 X.a, .int .i64 X.b, .int .i64 X.c, .int .i64 X.d])).run Try.prog wx = .ok true wx := fun wx => (eq_bk wx Try.underlying24 X X).trans (by simp)
        have QE2 : ∀ wx : World, (Op.equalIn 10000 24 (.agg #[.int .i64 0, .int .i64 0, .int .i64 0, .int .i64 0]) (.agg #[.int .i64 0, .int .i64 0, .int .i64 0, .int .i64 0])).run Try.prog wx = .ok true wx := fun wx => (eq_bk wx Try.underlying24 BkT.zero BkT.zero).trans (by simp)
        clear hF hS bX hSX kh kk EYZ HX HFX HSX
        have cW : ∀ wx, Below wr.heap.size wr wx → (wx.cell? ⟨g, 0, none⟩ = some (.int .i64 X.a) ∧ wx.cell? ⟨g, 1, none⟩ = some (.int .i64 X.b) ∧ wx.cell? ⟨g, 2, none⟩ = some (.int .i64 X.c) ∧ wx.cell? ⟨g, 3, none⟩ = some (.int .i64 X.d)) := fun wx bx => by
          have hA := (kg.then hB0).then bx
          exact ⟨hA.cell 0 _ rfl, hA.cell 1 _ rfl, hA.cell 2 _ rfl, hA.cell 3 _ rfl⟩
        go_upto_region 23 with fail
        have hB : Below wr.heap.size wr wr.drew := (Below.refl _ _).drew
        go_region_held3 (fun wx => Below wr.heap.size wr wx ∧ (wx.cell? ⟨g, 0, none⟩ = some (.int .i64 X.a) ∧ wx.cell? ⟨g, 1, none⟩ = some (.int .i64 X.b) ∧ wx.cell? ⟨g, 2, none⟩ = some (.int .i64 X.c) ∧ wx.cell? ⟨g, 3, none⟩ = some (.int .i64 X.d))) (exact held (cW _) hB) (first | (with_reducible refine P1.out _ _ hB (fun wl2 bn => ?_); replace hB := below_then hB bn) | (with_reducible refine P2.out _ _ (fun wl2 bn => ?_); replace hB := below_then hB bn) | (with_reducible refine P3.out _ _ (fun wl2 bn => ?_); replace hB := below_then hB bn) | (with_reducible refine P4.out _ _ hB (fun wl2 bn => ?_); replace hB := below_then hB bn) | (with_reducible refine P5.out _ _ (fun wl2 bn => ?_); replace hB := below_then hB bn) | (with_reducible refine P6.out _ _ (fun wl2 bn => ?_); replace hB := below_then hB bn))

        go_wp2
        go_ret
        exact ⟨rfl, below_then (below_then bW2 hB0) hB⟩
theorem lateBuckets_law (v0 v1 v2 v3 : Value) (w : World) (w0 : Arg w (.slice 1 (.int .i64)) v0) (w1 : Arg w (.slice 1 (.int .i64)) v1) (w2 : Arg w (.int .i64) v2) (w3 : Arg w (.int .i64) v3) :
    Calls Try.prog 4 #[v0, v1, v2, v3] w fun e w' => e = .returned (.bool true) ∧ Below w.heap.size w w' := by
  obtain ⟨bs, h0, _⟩ := arg_ints w0
  obtain ⟨ms, h1, _⟩ := arg_ints w1
  obtain ⟨n2, rfl, _⟩ := arg_int w2
  obtain ⟨n3, rfl, hb⟩ := arg_int w3
  exact lateBuckets_any v0 v1 bs ms n2 n3 w h0 h1 hb.1 hb.2
end Go.Proofs.Ytbppaomenhdjeaa
