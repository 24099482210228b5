/-
  The walk of CivilYears.
-/
import Derived.Test.YtmmompnianheiaaCivilRunsWalk
import Derived.Test.YtmmompnianheiaaBook
import Derived.Test.YtmmompnianheiaaCal2
namespace Go.Proofs.Ytmmompnianheiaa
open Go.RowKit

set_option maxRecDepth 100000 in
set_option maxHeartbeats 4000000 in
theorem civilYears_any (y m d : Int) (_w0 : (Lit.int .i64 y).wf = true) (_w1 : (Lit.int .i64 m).wf = true) (_w2 : (Lit.int .i64 d).wf = true) (w : World) :
    Calls Try.prog 7 #[.int .i64 y, .int .i64 m, .int .i64 d] w fun e w' => e = .returned (.bool true) ∧ Below w.heap.size w w' := by
  go_enter Try.func7, Try.ntmps7
  go_upto_region 2 with (go_at_call 19; refine (within_any _ _ _ (by omega) (by omega) (by omega) (by omega) _).mono ?_; rintro e wq ⟨rfl, hq⟩; have hq := hq.symm; subst hq)
  obtain ⟨a, ha⟩ : ∃ a, 1 + y % 9998 = a := ⟨_, rfl⟩
  rw [ha]
  have a0 : 1 ≤ a := by omega
  have a9 : a ≤ 9998 := by omega
  clear ha
  go_wp2
  go_loop [8, 9] (fun t i => ∃ k : Int, 1 ≤ k ∧ k ≤ 13 ∧ i = .int .i64 k ∧ t = .int .i64 (Cal.cum a k)) (fun _ i => (13 - intOf i).toNat)
  case atStart => exact ⟨1, by omega, by omega, rfl, rfl⟩
  case round =>
  obtain ⟨k, k1, k2, rfl, rfl⟩ := hrel
  obtain ⟨cb0, cb1⟩ := Cal.cum_bd a k k1 k2
  by_cases hlt : k ≤ 12
  · have HS : Hid (Cal.cum a (k + 1) = Cal.cum a k + Cal.last a k) := Cal.cum_succ a k a0 (by omega) k1 hlt
    obtain ⟨l0, l1⟩ := Cal.last_lo a k
    go_wp2_with (go_at_call 11; refine (last_any _ _ _).mono ?_; rintro e w' ⟨rfl, rfl⟩)
    go_round
    case rel => exact ⟨k + 1, by omega, by omega, rfl, congrArg (Value.int .i64) (by rw [HS.out])⟩
    case measure => simp [intOf]; omega
  · have e13 : k = 13 := by omega
    subst e13
    clear hlt k1 k2 cb0 cb1
    rw [Cal.cum_end]
    rcases Cal.lp_01 a with hlp | hlp
    · have hD : 365 + Cal.lp a = 365 := by omega
      rw [hD]
      have hF : Cal.last a 2 = 28 := by rw [Cal.last_feb a a0 (by omega)]; omega
      obtain ⟨P, hP⟩ : ∃ P, Cal.dby a = P := ⟨_, rfl⟩
      obtain ⟨p0, p1⟩ := Cal.dby_bd a a0 (by omega)
      rw [hP] at p0 p1
      have N1 : Hid (Cal.num a 1 1 = P) := by show _ = _; rw [Cal.num_first a a0 (by omega), hP]
      have N2 : Hid (Cal.num (a + 1) 1 1 = P + 365) := by show _ = _; rw [Cal.num_first (a + 1) (by omega) (by omega), Cal.dby_succ, hP]; omega
      have hw : IntKind.i64.wrap (P + 365 - P) = 365 := by rw [wrap_in _ (by omega) (by omega)]; omega
      have LP : Hid (Cal.lp a = 0) := hlp
      clear hP hD hlp
      go_upto_region 9 with (go_at_call 11; refine (last_any _ _ _).mono ?_; rintro e wq ⟨rfl, hq⟩; have hq := hq.symm; subst hq; rw [hF])
      refine wp_letter (fun wx => Below w.heap.size w wx ∧ wx.cell? ⟨w.heap.size, 0, none⟩ = some (.int .i64 a) ∧ wx.cell? ⟨w.heap.size, 1, none⟩ = some (.int .i64 1) ∧ wx.cell? ⟨w.heap.size, 2, none⟩ = some (.int .i64 1) ∧ wx.cell? ⟨w.heap.size + 1, 0, none⟩ = some (.int .i64 (a + 1)) ∧ wx.cell? ⟨w.heap.size + 1, 1, none⟩ = some (.int .i64 1) ∧ wx.cell? ⟨w.heap.size + 1, 2, none⟩ = some (.int .i64 1)) ?_ ?_
      · exact ⟨below_alloc (below_alloc (Below.refl _ _) _) _, by simp [go_sem]⟩
      rintro W ⟨bW, hC⟩
      have cW : ∀ wx, Below W.heap.size W wx → wx.cell? ⟨w.heap.size, 0, none⟩ = some (.int .i64 a) ∧ wx.cell? ⟨w.heap.size, 1, none⟩ = some (.int .i64 1) ∧ wx.cell? ⟨w.heap.size, 2, none⟩ = some (.int .i64 1) ∧ wx.cell? ⟨w.heap.size + 1, 0, none⟩ = some (.int .i64 (a + 1)) ∧ wx.cell? ⟨w.heap.size + 1, 1, none⟩ = some (.int .i64 1) ∧ wx.cell? ⟨w.heap.size + 1, 2, none⟩ = some (.int .i64 1) := by
        obtain ⟨c1, c2, c3, c4, c5, c6⟩ := hC
        exact fun wx b => ⟨cell_keep b c1, cell_keep b c2, cell_keep b c3, cell_keep b c4, cell_keep b c5, cell_keep b c6⟩
      clear hC
      first
        | (go_region_held (fun wx => Below W.heap.size W wx ∧ wx.cell? ⟨w.heap.size, 0, none⟩ = some (.int .i64 a) ∧ wx.cell? ⟨w.heap.size, 1, none⟩ = some (.int .i64 1) ∧ wx.cell? ⟨w.heap.size, 2, none⟩ = some (.int .i64 1) ∧ wx.cell? ⟨w.heap.size + 1, 0, none⟩ = some (.int .i64 (a + 1)) ∧ wx.cell? ⟨w.heap.size + 1, 1, none⟩ = some (.int .i64 1) ∧ wx.cell? ⟨w.heap.size + 1, 2, none⟩ = some (.int .i64 1))
      (first
        | exact ⟨(Below.refl _ _).drew, cW _ (Below.refl _ _).drew⟩
        | (go_split_ands; have hk := below_then (by assumption : Below W.heap.size W _) (by assumption); exact ⟨hk, cW _ hk⟩)
        | (go_split_ands; have hk := (by assumption : Below W.heap.size W _); exact ⟨hk, cW _ hk⟩))
      (first | ((go_at_call 8; refine (number_any _ _ _ _).mono ?_; rintro e wn ⟨rfl, bn⟩; first | rw [N1.out] | rw [N2.out]))))
        | fail
      rename_i hH
      have hB := below_then bW hH.1
      clear hH cW bW
      obtain ⟨mm, hmm⟩ : ∃ mm, 1 + m % 12 = mm := ⟨_, rfl⟩
      obtain ⟨dd, hdd⟩ : ∃ dd, 1 + d % 28 = dd := ⟨_, rfl⟩
      have m0 : 1 ≤ mm := by omega
      have m9 : mm ≤ 12 := by omega
      have d0 : 1 ≤ dd := by omega
      have d9 : dd ≤ 28 := by omega
      have HM : Hid (1 + m % 12 = mm) := hmm
      have HD : Hid (1 + d % 28 = dd) := hdd
      clear hmm hdd
      have yo := Cal.year_on a mm dd a0 a9 m0 m9 d0 d9
      obtain ⟨sY, sM, sD, n0, n9, yo⟩ := yo
      obtain ⟨N, hN⟩ : ∃ N, Cal.num a mm dd = N := ⟨_, rfl⟩
      rw [hN] at n0 n9 yo
      have HN : Hid (Cal.num a mm dd = N) := hN
      have YO : Hid (Cal.num (a + 1) mm dd = N + 365 + (if mm ≤ 2 then Cal.lp a else Cal.lp (a + 1))) := yo
      have SH : Hid (Cal.shY a mm dd 12 = a + 1 ∧ Cal.shM a mm dd 12 = mm ∧ Cal.shD a mm dd 12 = dd) := ⟨sY, sM, sD⟩
      have F2 : Hid (Cal.last (a + 1) 2 = 28 + Cal.lp (a + 1)) := Cal.last_feb (a + 1) (by omega) (by omega)
      have Z1 : Hid (Cal.last a 0 = 0) := Cal.last_out (by omega)
      have Z2 : Hid (Cal.last a 13 = 0) := Cal.last_out (by omega)
      have Z3 : Hid (Cal.last 0 1 = 0) := Cal.last_out (by omega)
      have Z4 : Hid (Cal.last 10000 1 = 0) := Cal.last_out (by omega)
      clear hN yo sY sM sD
      go_upto_region 12 with (go_at_call 19; refine (within_any _ _ _ (by omega) (by omega) (by omega) (by omega) _).mono ?_; rintro e wq ⟨rfl, hq⟩; have hq := hq.symm; subst hq; first | rw [show (12 : Int) - 1 + 1 = 12 by rfl, HM.out] | rw [show (28 : Int) - 1 + 1 = 28 by rfl, HD.out])
      rcases Cal.lp_01 (a + 1) with hl2 | hl2
      · by_cases hm2 : mm ≤ 2
        · have LN : Hid (Cal.last (a + 1) 2 = 28) := by show _ = _; rw [F2.out, hl2]; rfl
          have NX : Hid (Cal.num (a + 1) mm dd = N + 365) := by show _ = _; rw [YO.out]; rw [if_pos hm2, LP.out]; omega
          have hwv : IntKind.i64.wrap (N + 365 - N) = 365 := by rw [wrap_in _ (by omega) (by omega)]; omega
          clear YO F2 hl2
          refine wp_letter (fun wx => Below w.heap.size w wx ∧ ∃ E, wn.heap.size = E ∧ wx.cell? ⟨E, 0, none⟩ = some (.int .i64 a) ∧ wx.cell? ⟨E, 1, none⟩ = some (.int .i64 mm) ∧ wx.cell? ⟨E, 2, none⟩ = some (.int .i64 dd)) ?_ ?_
          · exact ⟨below_alloc hB _, _, rfl, by simp [go_sem]⟩
          rintro W ⟨bW, E, eE, hC⟩
          rw [eE]
          have cW : ∀ wx, Below W.heap.size W wx → wx.cell? ⟨E, 0, none⟩ = some (.int .i64 a) ∧ wx.cell? ⟨E, 1, none⟩ = some (.int .i64 mm) ∧ wx.cell? ⟨E, 2, none⟩ = some (.int .i64 dd) := by
            obtain ⟨c1, c2, c3⟩ := hC
            exact fun wx b => ⟨cell_keep b c1, cell_keep b c2, cell_keep b c3⟩
          clear eE hC hB
          go_region_held3 (fun wx => Below W.heap.size W wx ∧ wx.cell? ⟨E, 0, none⟩ = some (.int .i64 a) ∧ wx.cell? ⟨E, 1, none⟩ = some (.int .i64 mm) ∧ wx.cell? ⟨E, 2, none⟩ = some (.int .i64 dd))
            (first
              | exact ⟨(Below.refl _ _).drew, cW _ (Below.refl _ _).drew⟩
              | (go_split_ands; have hk := below_then (by assumption : Below W.heap.size W _) (by assumption); exact ⟨hk, cW _ hk⟩))
            (first
              | ((go_at_call 9; refine (shift_any _ _ _ _ _).mono ?_; rintro e wn ⟨rfl, bn⟩; rw [SH.out.1, SH.out.2.1, SH.out.2.2]))
              | ((go_at_call 8; refine (number_any _ _ _ _).mono ?_; rintro e wn ⟨rfl, bn⟩; first | rw [HN.out] | rw [NX.out])))
          rename_i hH
          obtain ⟨hB, hC⟩ := hH
          go_wp2_with (first
            | (go_at_call 11; refine (last_any _ _ _).mono ?_; rintro e wq ⟨rfl, hq⟩; have hq := hq.symm; subst hq; first | rw [LN.out] | rw [Z1.out] | rw [Z2.out] | rw [Z3.out] | rw [Z4.out])
            | (go_at_call 3; refine (civilRuns_any _).mono ?_; rintro e wm ⟨rfl, bm⟩; replace hB := below_then hB bm; clear bm))
          go_ret
          exact ⟨rfl, below_then bW hB⟩
        · have LN : Hid (Cal.last (a + 1) 2 = 28) := by show _ = _; rw [F2.out, hl2]; rfl
          have NX : Hid (Cal.num (a + 1) mm dd = N + 365) := by show _ = _; rw [YO.out]; rw [if_neg hm2, hl2]; omega
          have hwv : IntKind.i64.wrap (N + 365 - N) = 365 := by rw [wrap_in _ (by omega) (by omega)]; omega
          clear YO F2 hl2
          refine wp_letter (fun wx => Below w.heap.size w wx ∧ ∃ E, wn.heap.size = E ∧ wx.cell? ⟨E, 0, none⟩ = some (.int .i64 a) ∧ wx.cell? ⟨E, 1, none⟩ = some (.int .i64 mm) ∧ wx.cell? ⟨E, 2, none⟩ = some (.int .i64 dd)) ?_ ?_
          · exact ⟨below_alloc hB _, _, rfl, by simp [go_sem]⟩
          rintro W ⟨bW, E, eE, hC⟩
          rw [eE]
          have cW : ∀ wx, Below W.heap.size W wx → wx.cell? ⟨E, 0, none⟩ = some (.int .i64 a) ∧ wx.cell? ⟨E, 1, none⟩ = some (.int .i64 mm) ∧ wx.cell? ⟨E, 2, none⟩ = some (.int .i64 dd) := by
            obtain ⟨c1, c2, c3⟩ := hC
            exact fun wx b => ⟨cell_keep b c1, cell_keep b c2, cell_keep b c3⟩
          clear eE hC hB
          go_region_held3 (fun wx => Below W.heap.size W wx ∧ wx.cell? ⟨E, 0, none⟩ = some (.int .i64 a) ∧ wx.cell? ⟨E, 1, none⟩ = some (.int .i64 mm) ∧ wx.cell? ⟨E, 2, none⟩ = some (.int .i64 dd))
            (first
              | exact ⟨(Below.refl _ _).drew, cW _ (Below.refl _ _).drew⟩
              | (go_split_ands; have hk := below_then (by assumption : Below W.heap.size W _) (by assumption); exact ⟨hk, cW _ hk⟩))
            (first
              | ((go_at_call 9; refine (shift_any _ _ _ _ _).mono ?_; rintro e wn ⟨rfl, bn⟩; rw [SH.out.1, SH.out.2.1, SH.out.2.2]))
              | ((go_at_call 8; refine (number_any _ _ _ _).mono ?_; rintro e wn ⟨rfl, bn⟩; first | rw [HN.out] | rw [NX.out])))
          rename_i hH
          obtain ⟨hB, hC⟩ := hH
          go_wp2_with (first
            | (go_at_call 11; refine (last_any _ _ _).mono ?_; rintro e wq ⟨rfl, hq⟩; have hq := hq.symm; subst hq; first | rw [LN.out] | rw [Z1.out] | rw [Z2.out] | rw [Z3.out] | rw [Z4.out])
            | (go_at_call 3; refine (civilRuns_any _).mono ?_; rintro e wm ⟨rfl, bm⟩; replace hB := below_then hB bm; clear bm))
          go_ret
          exact ⟨rfl, below_then bW hB⟩
      · by_cases hm2 : mm ≤ 2
        · have LN : Hid (Cal.last (a + 1) 2 = 29) := by show _ = _; rw [F2.out, hl2]; rfl
          have NX : Hid (Cal.num (a + 1) mm dd = N + 365) := by show _ = _; rw [YO.out]; rw [if_pos hm2, LP.out]; omega
          have hwv : IntKind.i64.wrap (N + 365 - N) = 365 := by rw [wrap_in _ (by omega) (by omega)]; omega
          clear YO F2 hl2
          refine wp_letter (fun wx => Below w.heap.size w wx ∧ ∃ E, wn.heap.size = E ∧ wx.cell? ⟨E, 0, none⟩ = some (.int .i64 a) ∧ wx.cell? ⟨E, 1, none⟩ = some (.int .i64 mm) ∧ wx.cell? ⟨E, 2, none⟩ = some (.int .i64 dd)) ?_ ?_
          · exact ⟨below_alloc hB _, _, rfl, by simp [go_sem]⟩
          rintro W ⟨bW, E, eE, hC⟩
          rw [eE]
          have cW : ∀ wx, Below W.heap.size W wx → wx.cell? ⟨E, 0, none⟩ = some (.int .i64 a) ∧ wx.cell? ⟨E, 1, none⟩ = some (.int .i64 mm) ∧ wx.cell? ⟨E, 2, none⟩ = some (.int .i64 dd) := by
            obtain ⟨c1, c2, c3⟩ := hC
            exact fun wx b => ⟨cell_keep b c1, cell_keep b c2, cell_keep b c3⟩
          clear eE hC hB
          go_region_held3 (fun wx => Below W.heap.size W wx ∧ wx.cell? ⟨E, 0, none⟩ = some (.int .i64 a) ∧ wx.cell? ⟨E, 1, none⟩ = some (.int .i64 mm) ∧ wx.cell? ⟨E, 2, none⟩ = some (.int .i64 dd))
            (first
              | exact ⟨(Below.refl _ _).drew, cW _ (Below.refl _ _).drew⟩
              | (go_split_ands; have hk := below_then (by assumption : Below W.heap.size W _) (by assumption); exact ⟨hk, cW _ hk⟩))
            (first
              | ((go_at_call 9; refine (shift_any _ _ _ _ _).mono ?_; rintro e wn ⟨rfl, bn⟩; rw [SH.out.1, SH.out.2.1, SH.out.2.2]))
              | ((go_at_call 8; refine (number_any _ _ _ _).mono ?_; rintro e wn ⟨rfl, bn⟩; first | rw [HN.out] | rw [NX.out])))
          rename_i hH
          obtain ⟨hB, hC⟩ := hH
          go_wp2_with (first
            | (go_at_call 11; refine (last_any _ _ _).mono ?_; rintro e wq ⟨rfl, hq⟩; have hq := hq.symm; subst hq; first | rw [LN.out] | rw [Z1.out] | rw [Z2.out] | rw [Z3.out] | rw [Z4.out])
            | (go_at_call 3; refine (civilRuns_any _).mono ?_; rintro e wm ⟨rfl, bm⟩; replace hB := below_then hB bm; clear bm))
          go_ret
          exact ⟨rfl, below_then bW hB⟩
        · have LN : Hid (Cal.last (a + 1) 2 = 29) := by show _ = _; rw [F2.out, hl2]; rfl
          have NX : Hid (Cal.num (a + 1) mm dd = N + 366) := by show _ = _; rw [YO.out]; rw [if_neg hm2, hl2]; omega
          have hwv : IntKind.i64.wrap (N + 366 - N) = 366 := by rw [wrap_in _ (by omega) (by omega)]; omega
          clear YO F2 hl2
          refine wp_letter (fun wx => Below w.heap.size w wx ∧ ∃ E, wn.heap.size = E ∧ wx.cell? ⟨E, 0, none⟩ = some (.int .i64 a) ∧ wx.cell? ⟨E, 1, none⟩ = some (.int .i64 mm) ∧ wx.cell? ⟨E, 2, none⟩ = some (.int .i64 dd)) ?_ ?_
          · exact ⟨below_alloc hB _, _, rfl, by simp [go_sem]⟩
          rintro W ⟨bW, E, eE, hC⟩
          rw [eE]
          have cW : ∀ wx, Below W.heap.size W wx → wx.cell? ⟨E, 0, none⟩ = some (.int .i64 a) ∧ wx.cell? ⟨E, 1, none⟩ = some (.int .i64 mm) ∧ wx.cell? ⟨E, 2, none⟩ = some (.int .i64 dd) := by
            obtain ⟨c1, c2, c3⟩ := hC
            exact fun wx b => ⟨cell_keep b c1, cell_keep b c2, cell_keep b c3⟩
          clear eE hC hB
          go_region_held3 (fun wx => Below W.heap.size W wx ∧ wx.cell? ⟨E, 0, none⟩ = some (.int .i64 a) ∧ wx.cell? ⟨E, 1, none⟩ = some (.int .i64 mm) ∧ wx.cell? ⟨E, 2, none⟩ = some (.int .i64 dd))
            (first
              | exact ⟨(Below.refl _ _).drew, cW _ (Below.refl _ _).drew⟩
              | (go_split_ands; have hk := below_then (by assumption : Below W.heap.size W _) (by assumption); exact ⟨hk, cW _ hk⟩))
            (first
              | ((go_at_call 9; refine (shift_any _ _ _ _ _).mono ?_; rintro e wn ⟨rfl, bn⟩; rw [SH.out.1, SH.out.2.1, SH.out.2.2]))
              | ((go_at_call 8; refine (number_any _ _ _ _).mono ?_; rintro e wn ⟨rfl, bn⟩; first | rw [HN.out] | rw [NX.out])))
          rename_i hH
          obtain ⟨hB, hC⟩ := hH
          go_wp2_with (first
            | (go_at_call 11; refine (last_any _ _ _).mono ?_; rintro e wq ⟨rfl, hq⟩; have hq := hq.symm; subst hq; first | rw [LN.out] | rw [Z1.out] | rw [Z2.out] | rw [Z3.out] | rw [Z4.out])
            | (go_at_call 3; refine (civilRuns_any _).mono ?_; rintro e wm ⟨rfl, bm⟩; replace hB := below_then hB bm; clear bm))
          go_ret
          exact ⟨rfl, below_then bW hB⟩
    · have hD : 365 + Cal.lp a = 366 := by omega
      rw [hD]
      have hF : Cal.last a 2 = 29 := by rw [Cal.last_feb a a0 (by omega)]; omega
      obtain ⟨P, hP⟩ : ∃ P, Cal.dby a = P := ⟨_, rfl⟩
      obtain ⟨p0, p1⟩ := Cal.dby_bd a a0 (by omega)
      rw [hP] at p0 p1
      have N1 : Hid (Cal.num a 1 1 = P) := by show _ = _; rw [Cal.num_first a a0 (by omega), hP]
      have N2 : Hid (Cal.num (a + 1) 1 1 = P + 366) := by show _ = _; rw [Cal.num_first (a + 1) (by omega) (by omega), Cal.dby_succ, hP]; omega
      have hw : IntKind.i64.wrap (P + 366 - P) = 366 := by rw [wrap_in _ (by omega) (by omega)]; omega
      have LP : Hid (Cal.lp a = 1) := hlp
      clear hP hD hlp
      go_upto_region 9 with (go_at_call 11; refine (last_any _ _ _).mono ?_; rintro e wq ⟨rfl, hq⟩; have hq := hq.symm; subst hq; rw [hF])
      refine wp_letter (fun wx => Below w.heap.size w wx ∧ wx.cell? ⟨w.heap.size, 0, none⟩ = some (.int .i64 a) ∧ wx.cell? ⟨w.heap.size, 1, none⟩ = some (.int .i64 1) ∧ wx.cell? ⟨w.heap.size, 2, none⟩ = some (.int .i64 1) ∧ wx.cell? ⟨w.heap.size + 1, 0, none⟩ = some (.int .i64 (a + 1)) ∧ wx.cell? ⟨w.heap.size + 1, 1, none⟩ = some (.int .i64 1) ∧ wx.cell? ⟨w.heap.size + 1, 2, none⟩ = some (.int .i64 1)) ?_ ?_
      · exact ⟨below_alloc (below_alloc (Below.refl _ _) _) _, by simp [go_sem]⟩
      rintro W ⟨bW, hC⟩
      have cW : ∀ wx, Below W.heap.size W wx → wx.cell? ⟨w.heap.size, 0, none⟩ = some (.int .i64 a) ∧ wx.cell? ⟨w.heap.size, 1, none⟩ = some (.int .i64 1) ∧ wx.cell? ⟨w.heap.size, 2, none⟩ = some (.int .i64 1) ∧ wx.cell? ⟨w.heap.size + 1, 0, none⟩ = some (.int .i64 (a + 1)) ∧ wx.cell? ⟨w.heap.size + 1, 1, none⟩ = some (.int .i64 1) ∧ wx.cell? ⟨w.heap.size + 1, 2, none⟩ = some (.int .i64 1) := by
        obtain ⟨c1, c2, c3, c4, c5, c6⟩ := hC
        exact fun wx b => ⟨cell_keep b c1, cell_keep b c2, cell_keep b c3, cell_keep b c4, cell_keep b c5, cell_keep b c6⟩
      clear hC
      first
        | (go_region_held (fun wx => Below W.heap.size W wx ∧ wx.cell? ⟨w.heap.size, 0, none⟩ = some (.int .i64 a) ∧ wx.cell? ⟨w.heap.size, 1, none⟩ = some (.int .i64 1) ∧ wx.cell? ⟨w.heap.size, 2, none⟩ = some (.int .i64 1) ∧ wx.cell? ⟨w.heap.size + 1, 0, none⟩ = some (.int .i64 (a + 1)) ∧ wx.cell? ⟨w.heap.size + 1, 1, none⟩ = some (.int .i64 1) ∧ wx.cell? ⟨w.heap.size + 1, 2, none⟩ = some (.int .i64 1))
      (first
        | exact ⟨(Below.refl _ _).drew, cW _ (Below.refl _ _).drew⟩
        | (go_split_ands; have hk := below_then (by assumption : Below W.heap.size W _) (by assumption); exact ⟨hk, cW _ hk⟩)
        | (go_split_ands; have hk := (by assumption : Below W.heap.size W _); exact ⟨hk, cW _ hk⟩))
      (first | ((go_at_call 8; refine (number_any _ _ _ _).mono ?_; rintro e wn ⟨rfl, bn⟩; first | rw [N1.out] | rw [N2.out]))))
        | fail
      rename_i hH
      have hB := below_then bW hH.1
      clear hH cW bW
      obtain ⟨mm, hmm⟩ : ∃ mm, 1 + m % 12 = mm := ⟨_, rfl⟩
      obtain ⟨dd, hdd⟩ : ∃ dd, 1 + d % 28 = dd := ⟨_, rfl⟩
      have m0 : 1 ≤ mm := by omega
      have m9 : mm ≤ 12 := by omega
      have d0 : 1 ≤ dd := by omega
      have d9 : dd ≤ 28 := by omega
      have HM : Hid (1 + m % 12 = mm) := hmm
      have HD : Hid (1 + d % 28 = dd) := hdd
      clear hmm hdd
      have yo := Cal.year_on a mm dd a0 a9 m0 m9 d0 d9
      obtain ⟨sY, sM, sD, n0, n9, yo⟩ := yo
      obtain ⟨N, hN⟩ : ∃ N, Cal.num a mm dd = N := ⟨_, rfl⟩
      rw [hN] at n0 n9 yo
      have HN : Hid (Cal.num a mm dd = N) := hN
      have YO : Hid (Cal.num (a + 1) mm dd = N + 365 + (if mm ≤ 2 then Cal.lp a else Cal.lp (a + 1))) := yo
      have SH : Hid (Cal.shY a mm dd 12 = a + 1 ∧ Cal.shM a mm dd 12 = mm ∧ Cal.shD a mm dd 12 = dd) := ⟨sY, sM, sD⟩
      have F2 : Hid (Cal.last (a + 1) 2 = 28 + Cal.lp (a + 1)) := Cal.last_feb (a + 1) (by omega) (by omega)
      have Z1 : Hid (Cal.last a 0 = 0) := Cal.last_out (by omega)
      have Z2 : Hid (Cal.last a 13 = 0) := Cal.last_out (by omega)
      have Z3 : Hid (Cal.last 0 1 = 0) := Cal.last_out (by omega)
      have Z4 : Hid (Cal.last 10000 1 = 0) := Cal.last_out (by omega)
      clear hN yo sY sM sD
      go_upto_region 12 with (go_at_call 19; refine (within_any _ _ _ (by omega) (by omega) (by omega) (by omega) _).mono ?_; rintro e wq ⟨rfl, hq⟩; have hq := hq.symm; subst hq; first | rw [show (12 : Int) - 1 + 1 = 12 by rfl, HM.out] | rw [show (28 : Int) - 1 + 1 = 28 by rfl, HD.out])
      have hl2 := Cal.lp_next LP.out
      by_cases hm2 : mm ≤ 2
      · have LN : Hid (Cal.last (a + 1) 2 = 28) := by show _ = _; rw [F2.out, hl2]; rfl
        have NX : Hid (Cal.num (a + 1) mm dd = N + 366) := by show _ = _; rw [YO.out]; rw [if_pos hm2, LP.out]; omega
        have hwv : IntKind.i64.wrap (N + 366 - N) = 366 := by rw [wrap_in _ (by omega) (by omega)]; omega
        clear YO F2 hl2
        refine wp_letter (fun wx => Below w.heap.size w wx ∧ ∃ E, wn.heap.size = E ∧ wx.cell? ⟨E, 0, none⟩ = some (.int .i64 a) ∧ wx.cell? ⟨E, 1, none⟩ = some (.int .i64 mm) ∧ wx.cell? ⟨E, 2, none⟩ = some (.int .i64 dd)) ?_ ?_
        · exact ⟨below_alloc hB _, _, rfl, by simp [go_sem]⟩
        rintro W ⟨bW, E, eE, hC⟩
        rw [eE]
        have cW : ∀ wx, Below W.heap.size W wx → wx.cell? ⟨E, 0, none⟩ = some (.int .i64 a) ∧ wx.cell? ⟨E, 1, none⟩ = some (.int .i64 mm) ∧ wx.cell? ⟨E, 2, none⟩ = some (.int .i64 dd) := by
          obtain ⟨c1, c2, c3⟩ := hC
          exact fun wx b => ⟨cell_keep b c1, cell_keep b c2, cell_keep b c3⟩
        clear eE hC hB
        go_region_held3 (fun wx => Below W.heap.size W wx ∧ wx.cell? ⟨E, 0, none⟩ = some (.int .i64 a) ∧ wx.cell? ⟨E, 1, none⟩ = some (.int .i64 mm) ∧ wx.cell? ⟨E, 2, none⟩ = some (.int .i64 dd))
          (first
            | exact ⟨(Below.refl _ _).drew, cW _ (Below.refl _ _).drew⟩
            | (go_split_ands; have hk := below_then (by assumption : Below W.heap.size W _) (by assumption); exact ⟨hk, cW _ hk⟩))
          (first
            | ((go_at_call 9; refine (shift_any _ _ _ _ _).mono ?_; rintro e wn ⟨rfl, bn⟩; rw [SH.out.1, SH.out.2.1, SH.out.2.2]))
            | ((go_at_call 8; refine (number_any _ _ _ _).mono ?_; rintro e wn ⟨rfl, bn⟩; first | rw [HN.out] | rw [NX.out])))
        rename_i hH
        obtain ⟨hB, hC⟩ := hH
        go_wp2_with (first
          | (go_at_call 11; refine (last_any _ _ _).mono ?_; rintro e wq ⟨rfl, hq⟩; have hq := hq.symm; subst hq; first | rw [LN.out] | rw [Z1.out] | rw [Z2.out] | rw [Z3.out] | rw [Z4.out])
          | (go_at_call 3; refine (civilRuns_any _).mono ?_; rintro e wm ⟨rfl, bm⟩; replace hB := below_then hB bm; clear bm))
        go_ret
        exact ⟨rfl, below_then bW hB⟩
      · have LN : Hid (Cal.last (a + 1) 2 = 28) := by show _ = _; rw [F2.out, hl2]; rfl
        have NX : Hid (Cal.num (a + 1) mm dd = N + 365) := by show _ = _; rw [YO.out]; rw [if_neg hm2, hl2]; omega
        have hwv : IntKind.i64.wrap (N + 365 - N) = 365 := by rw [wrap_in _ (by omega) (by omega)]; omega
        clear YO F2 hl2
        refine wp_letter (fun wx => Below w.heap.size w wx ∧ ∃ E, wn.heap.size = E ∧ wx.cell? ⟨E, 0, none⟩ = some (.int .i64 a) ∧ wx.cell? ⟨E, 1, none⟩ = some (.int .i64 mm) ∧ wx.cell? ⟨E, 2, none⟩ = some (.int .i64 dd)) ?_ ?_
        · exact ⟨below_alloc hB _, _, rfl, by simp [go_sem]⟩
        rintro W ⟨bW, E, eE, hC⟩
        rw [eE]
        have cW : ∀ wx, Below W.heap.size W wx → wx.cell? ⟨E, 0, none⟩ = some (.int .i64 a) ∧ wx.cell? ⟨E, 1, none⟩ = some (.int .i64 mm) ∧ wx.cell? ⟨E, 2, none⟩ = some (.int .i64 dd) := by
          obtain ⟨c1, c2, c3⟩ := hC
          exact fun wx b => ⟨cell_keep b c1, cell_keep b c2, cell_keep b c3⟩
        clear eE hC hB
        go_region_held3 (fun wx => Below W.heap.size W wx ∧ wx.cell? ⟨E, 0, none⟩ = some (.int .i64 a) ∧ wx.cell? ⟨E, 1, none⟩ = some (.int .i64 mm) ∧ wx.cell? ⟨E, 2, none⟩ = some (.int .i64 dd))
          (first
            | exact ⟨(Below.refl _ _).drew, cW _ (Below.refl _ _).drew⟩
            | (go_split_ands; have hk := below_then (by assumption : Below W.heap.size W _) (by assumption); exact ⟨hk, cW _ hk⟩))
          (first
            | ((go_at_call 9; refine (shift_any _ _ _ _ _).mono ?_; rintro e wn ⟨rfl, bn⟩; rw [SH.out.1, SH.out.2.1, SH.out.2.2]))
            | ((go_at_call 8; refine (number_any _ _ _ _).mono ?_; rintro e wn ⟨rfl, bn⟩; first | rw [HN.out] | rw [NX.out])))
        rename_i hH
        obtain ⟨hB, hC⟩ := hH
        go_wp2_with (first
          | (go_at_call 11; refine (last_any _ _ _).mono ?_; rintro e wq ⟨rfl, hq⟩; have hq := hq.symm; subst hq; first | rw [LN.out] | rw [Z1.out] | rw [Z2.out] | rw [Z3.out] | rw [Z4.out])
          | (go_at_call 3; refine (civilRuns_any _).mono ?_; rintro e wm ⟨rfl, bm⟩; replace hB := below_then hB bm; clear bm))
        go_ret
        exact ⟨rfl, below_then bW hB⟩
end Go.Proofs.Ytmmompnianheiaa
