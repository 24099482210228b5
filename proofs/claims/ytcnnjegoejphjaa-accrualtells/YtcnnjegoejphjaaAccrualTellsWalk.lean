/-
  The walk of AccrualTells.
-/
import Derived.Test.YtcnnjegoejphjaaAccrualRunsWalk
import Derived.Test.YtcnnjegoejphjaaRefAccrual4
import Derived.Test.YtcnnjegoejphjaaBook
namespace Go.Proofs.Ytcnnjegoejphjaa
open Go.RowKit

theorem refOf_some (n : Int) (w : World) :
    Calls Try.prog 22 #[.int .i64 n] w fun e w' => (∃ y m d : Int, e = .returned (.agg #[.int .i64 y, .int .i64 m, .int .i64 d])) ∧ Below w.heap.size w w' := by
  by_cases h : n < 0 ∨ 3652059 ≤ n
  · refine (refOf_no n w h).mono ?_
    rintro e w' ⟨rfl, b⟩
    exact ⟨⟨0, 0, 0, rfl⟩, b⟩
  · refine (refOf_yes n w (by omega) (by omega)).mono ?_
    rintro e w' ⟨⟨y, m, d, rfl, _⟩, b⟩
    exact ⟨⟨y, m, d, rfl⟩, b⟩

set_option maxHeartbeats 1000000 in
theorem date_any (n : Int) (w : World) :
    Calls Try.prog 10 #[.int .i64 n] w fun e w' => (∃ y m d : Int, e = .returned (.tuple #[.agg #[.int .i64 y, .int .i64 m, .int .i64 d], .agg #[.int .i64 y, .int .i64 m, .int .i64 d]])) ∧ Below w.heap.size w w' := by
  go_enter Try.func10, Try.ntmps10
  go_upto_region 2 with (first
    | (go_at_call 11; refine (within_any _ _ _ (by omega) (by omega) (by omega) (by omega) _).mono ?_; rintro e wq ⟨rfl, hq⟩; have hq := hq.symm; subst hq)
    | (go_at_call 22; refine (refOf_some _ _).mono ?_; rintro e w1 ⟨⟨y, m, d, rfl⟩, b1⟩))
  refine wp_letter (fun wx => Below w.heap.size w wx ∧ ∃ E, w1.heap.size = E ∧ w.heap.size + 1 < E ∧ wx.cell? ⟨E, 0, none⟩ = some (.int .i64 y) ∧ wx.cell? ⟨E, 1, none⟩ = some (.int .i64 m) ∧ wx.cell? ⟨E, 2, none⟩ = some (.int .i64 d) ∧ wx.frozen? ⟨E, 2, none⟩ = false ∧ wx.cell? ⟨w.heap.size, 0, none⟩ = some (.int .i64 0) ∧ wx.cell? ⟨w.heap.size, 1, none⟩ = some (.int .i64 0) ∧ wx.cell? ⟨w.heap.size, 2, none⟩ = some (.int .i64 0) ∧ wx.cell? ⟨w.heap.size + 1, 0, none⟩ = some (.int .i64 0) ∧ wx.cell? ⟨w.heap.size + 1, 1, none⟩ = some (.int .i64 0) ∧ wx.cell? ⟨w.heap.size + 1, 2, none⟩ = some (.int .i64 0) ∧ wx.frozen? ⟨w.heap.size, 0, none⟩ = false ∧ wx.frozen? ⟨w.heap.size, 1, none⟩ = false ∧ wx.frozen? ⟨w.heap.size, 2, none⟩ = false ∧ wx.frozen? ⟨w.heap.size + 1, 0, none⟩ = false ∧ wx.frozen? ⟨w.heap.size + 1, 1, none⟩ = false ∧ wx.frozen? ⟨w.heap.size + 1, 2, none⟩ = false) ?_ ?_
  · have hz : w.heap.size + 1 < w1.heap.size := by (have := b1.size; simp at this; omega)
    have hbel := below_then (below_alloc (below_alloc (Below.refl w.heap.size w) (.cells #[.int .i64 0, .int .i64 0, .int .i64 0] 23)) (.cells #[.int .i64 0, .int .i64 0, .int .i64 0] 29)) b1
    refine ⟨below_alloc hbel _, _, rfl, hz, by simp, by simp, by simp, by simp [go_sem], ?_⟩
    have b2 := below_alloc b1 (.cells #[.int .i64 y, .int .i64 m, .int .i64 d] 29)
    refine ⟨cell_keep b2 (by simp), cell_keep b2 (by simp), cell_keep b2 (by simp), cell_keep b2 (by simp), cell_keep b2 (by simp), cell_keep b2 (by simp), ?_, ?_, ?_, ?_, ?_, ?_⟩ <;> (rw [(bcell b2).2 _ _ (by first | (simp; done) | (simp; omega))]; simp [go_sem])
  rintro W ⟨bW, E, eE, hE, hC⟩
  rw [eE]
  clear eE b1
  obtain ⟨x, hx⟩ : ∃ x, bits .and .i64 n 31 = x := ⟨_, rfl⟩
  by_cases h7 : x = 7
  · have h7' : (x == 7) = true := beq_iff_eq.2 h7
    clear h7
    go_upto_region 4 with fail
    refine wp_letter (fun wx => Below w.heap.size w wx ∧ ∃ D : Int, (31 : Int) = D ∧ wx.cell? ⟨E, 0, none⟩ = some (.int .i64 y) ∧ wx.cell? ⟨E, 1, none⟩ = some (.int .i64 m) ∧ wx.cell? ⟨E, 2, none⟩ = some (.int .i64 D) ∧ wx.frozen? ⟨E, 2, none⟩ = false ∧ wx.cell? ⟨w.heap.size, 0, none⟩ = some (.int .i64 0) ∧ wx.cell? ⟨w.heap.size, 1, none⟩ = some (.int .i64 0) ∧ wx.cell? ⟨w.heap.size, 2, none⟩ = some (.int .i64 0) ∧ wx.cell? ⟨w.heap.size + 1, 0, none⟩ = some (.int .i64 0) ∧ wx.cell? ⟨w.heap.size + 1, 1, none⟩ = some (.int .i64 0) ∧ wx.cell? ⟨w.heap.size + 1, 2, none⟩ = some (.int .i64 0) ∧ wx.frozen? ⟨w.heap.size, 0, none⟩ = false ∧ wx.frozen? ⟨w.heap.size, 1, none⟩ = false ∧ wx.frozen? ⟨w.heap.size, 2, none⟩ = false ∧ wx.frozen? ⟨w.heap.size + 1, 0, none⟩ = false ∧ wx.frozen? ⟨w.heap.size + 1, 1, none⟩ = false ∧ wx.frozen? ⟨w.heap.size + 1, 2, none⟩ = false) ?_ ?_
    · refine ⟨bW.setCell (show w.heap.size ≤ E by omega) _, 31, rfl, ?_⟩
      have e1 : w.heap.size ≠ E := by omega
      have e2 : w.heap.size + 1 ≠ E := by omega
      simp [go_sem, hC]
    clear bW hC
    rintro W2 ⟨bW, D, eD, hC⟩
    clear eD
    have e1 : w.heap.size ≠ E := by omega
    have e2 : w.heap.size + 1 ≠ E := by omega
    go_region_held3 (fun wx => Below w.heap.size w wx ∧ wx.cell? ⟨E, 0, none⟩ = some (.int .i64 y) ∧ wx.cell? ⟨E, 1, none⟩ = some (.int .i64 m) ∧ wx.cell? ⟨E, 2, none⟩ = some (.int .i64 D) ∧ wx.frozen? ⟨w.heap.size, 0, none⟩ = false ∧ wx.frozen? ⟨w.heap.size, 1, none⟩ = false ∧ wx.frozen? ⟨w.heap.size, 2, none⟩ = false ∧ wx.frozen? ⟨w.heap.size + 1, 0, none⟩ = false ∧ wx.frozen? ⟨w.heap.size + 1, 1, none⟩ = false ∧ wx.frozen? ⟨w.heap.size + 1, 2, none⟩ = false)
      (((try go_split_ands); refine ⟨?_, ?_⟩; (repeat (first | with_reducible assumption | with_reducible refine Below.drew ?_ | with_reducible refine below_set3 ?_ (by omega))); (simp [go_sem, *])))
      (first | fail)
    all_goals
      rename_i hH
      have hE2 := hH.1
      clear hH
      go_wp2
      refine bodyPost_ret (v := .tuple #[.agg #[.int .i64 y, .int .i64 m, .int .i64 D], .agg #[.int .i64 y, .int .i64 m, .int .i64 D]]) ?_ rfl ⟨⟨y, m, D, rfl⟩, hE2⟩
      simp [results, Try.results10, go_sem, hC]
  · have h7' : (x == 7) = false := beq_eq_false_iff_ne.2 h7
    clear h7
    obtain ⟨D, eD⟩ : ∃ D, d = D := ⟨_, rfl⟩
    rw [eD] at hC
    clear eD
    go_upto_region 4 with fail
    have e1 : w.heap.size ≠ E := by omega
    have e2 : w.heap.size + 1 ≠ E := by omega
    go_region_held3 (fun wx => Below w.heap.size w wx ∧ wx.cell? ⟨E, 0, none⟩ = some (.int .i64 y) ∧ wx.cell? ⟨E, 1, none⟩ = some (.int .i64 m) ∧ wx.cell? ⟨E, 2, none⟩ = some (.int .i64 D) ∧ wx.frozen? ⟨w.heap.size, 0, none⟩ = false ∧ wx.frozen? ⟨w.heap.size, 1, none⟩ = false ∧ wx.frozen? ⟨w.heap.size, 2, none⟩ = false ∧ wx.frozen? ⟨w.heap.size + 1, 0, none⟩ = false ∧ wx.frozen? ⟨w.heap.size + 1, 1, none⟩ = false ∧ wx.frozen? ⟨w.heap.size + 1, 2, none⟩ = false)
      (((try go_split_ands); refine ⟨?_, ?_⟩; (repeat (first | with_reducible assumption | with_reducible refine Below.drew ?_ | with_reducible refine below_set3 ?_ (by omega))); (simp [go_sem, *])))
      (first | fail)
    all_goals
      rename_i hH
      have hE2 := hH.1
      clear hH
      go_wp2
      refine bodyPost_ret (v := .tuple #[.agg #[.int .i64 y, .int .i64 m, .int .i64 D], .agg #[.int .i64 y, .int .i64 m, .int .i64 D]]) ?_ rfl ⟨⟨y, m, D, rfl⟩, hE2⟩
      simp [results, Try.results10, go_sem, hC]

set_option maxRecDepth 100000 in
set_option maxHeartbeats 1000000 in
theorem accrualTells_any (balance rate basis n k : Int) (_w0 : (Lit.int .i64 balance).wf = true) (_w1 : (Lit.int .i64 rate).wf = true) (_w2 : (Lit.int .i64 basis).wf = true) (_w3 : (Lit.int .i64 n).wf = true) (_w4 : (Lit.int .i64 k).wf = true) (w : World) :
    Calls Try.prog 4 #[.int .i64 balance, .int .i64 rate, .int .i64 basis, .int .i64 n, .int .i64 k] w fun e w' => e = .returned (.bool true) ∧ Below w.heap.size w w' := by
  obtain ⟨K, hK⟩ : ∃ K, -1 + basis % (4 - -1 + 1) = K := ⟨_, rfl⟩
  have hK' : -1 + basis % 6 = K := hK
  have hk0 : -1 ≤ K := by omega
  have hk1 : K ≤ 4 := by omega
  have HK : Hid (-1 + basis % (4 - -1 + 1) = K) := hK
  have HB : Hid (-1 ≤ K ∧ K ≤ 4) := ⟨hk0, hk1⟩
  clear hK hK' hk0 hk1 _w0 _w1 _w2 _w3 _w4
  go_enter Try.func4, Try.ntmps4
  go_wp2_with fail
  refine (date_any _ _).mono ?_
  rintro e w1 ⟨⟨y, m, d, rfl⟩, b1⟩
  go_wp2_with fail
  refine (date_any _ _).mono ?_
  rintro e w2 ⟨⟨p, q, r, rfl⟩, b2⟩
  go_upto_region 3 with fail
  refine wp_letter (fun wx => Below w.heap.size w wx ∧ ∃ A B, w1.heap.size = A ∧ w2.heap.size = B ∧ wx.cell? ⟨A, 0, none⟩ = some (.int .i64 y) ∧ wx.cell? ⟨A, 1, none⟩ = some (.int .i64 m) ∧ wx.cell? ⟨A, 2, none⟩ = some (.int .i64 d) ∧ wx.cell? ⟨A + 1, 0, none⟩ = some (.int .i64 y) ∧ wx.cell? ⟨A + 1, 1, none⟩ = some (.int .i64 m) ∧ wx.cell? ⟨A + 1, 2, none⟩ = some (.int .i64 d) ∧ wx.cell? ⟨B, 0, none⟩ = some (.int .i64 p) ∧ wx.cell? ⟨B, 1, none⟩ = some (.int .i64 q) ∧ wx.cell? ⟨B, 2, none⟩ = some (.int .i64 r) ∧ wx.cell? ⟨B + 1, 0, none⟩ = some (.int .i64 p) ∧ wx.cell? ⟨B + 1, 1, none⟩ = some (.int .i64 q) ∧ wx.cell? ⟨B + 1, 2, none⟩ = some (.int .i64 r)) ?_ ?_
  · refine ⟨below_alloc (below_alloc (below_then (below_alloc (below_alloc b1 _) _) b2) _) _, _, _, rfl, rfl, ?_⟩
    have b3 := below_alloc (below_alloc b2 (.cells #[.int .i64 p, .int .i64 q, .int .i64 r] 23)) (.cells #[.int .i64 p, .int .i64 q, .int .i64 r] 29)
    refine ⟨cell_keep b3 (by simp), cell_keep b3 (by simp), cell_keep b3 (by simp), cell_keep b3 (by simp), cell_keep b3 (by simp), cell_keep b3 (by simp), ?_⟩
    simp
  rintro W ⟨bW, A, B, eA, eB, hC⟩
  rw [eA, eB]
  clear eA eB b1 b2
  have cW : ∀ wx, Below W.heap.size W wx → wx.cell? ⟨A, 0, none⟩ = some (.int .i64 y) ∧ wx.cell? ⟨A, 1, none⟩ = some (.int .i64 m) ∧ wx.cell? ⟨A, 2, none⟩ = some (.int .i64 d) ∧ wx.cell? ⟨A + 1, 0, none⟩ = some (.int .i64 y) ∧ wx.cell? ⟨A + 1, 1, none⟩ = some (.int .i64 m) ∧ wx.cell? ⟨A + 1, 2, none⟩ = some (.int .i64 d) ∧ wx.cell? ⟨B, 0, none⟩ = some (.int .i64 p) ∧ wx.cell? ⟨B, 1, none⟩ = some (.int .i64 q) ∧ wx.cell? ⟨B, 2, none⟩ = some (.int .i64 r) ∧ wx.cell? ⟨B + 1, 0, none⟩ = some (.int .i64 p) ∧ wx.cell? ⟨B + 1, 1, none⟩ = some (.int .i64 q) ∧ wx.cell? ⟨B + 1, 2, none⟩ = some (.int .i64 r) := by
    obtain ⟨c1, c2, c3, c4, c5, c6, c7, c8, c9, ca, cb, cc⟩ := hC
    exact fun wx b => ⟨cell_keep b c1, cell_keep b c2, cell_keep b c3, cell_keep b c4, cell_keep b c5, cell_keep b c6, cell_keep b c7, cell_keep b c8, cell_keep b c9, cell_keep b ca, cell_keep b cb, cell_keep b cc⟩
  have hB : Below W.heap.size W W := Below.refl _ _
  have HD : Hid (∃ D, Acc.days K y m d p q r = D) := ⟨_, rfl⟩
  obtain ⟨D, hD⟩ := HD.out
  obtain ⟨P, hP⟩ : ∃ P, Acc.per K = P := ⟨_, rfl⟩
  obtain ⟨V, hV⟩ : ∃ P, Acc.intV balance rate K y m d p q r = P := ⟨_, rfl⟩
  obtain ⟨U, hU⟩ : ∃ P, Acc.intB balance rate K y m d p q r = P := ⟨_, rfl⟩
  have FD : Hid (Acc.days K y m d p q r = D) := hD
  have FP : Hid (Acc.per K = P) := hP
  have FV : Hid (Acc.intV balance rate K y m d p q r = V) := hV
  have FU : Hid (Acc.intB balance rate K y m d p q r = U) := hU
  clear HD hD hP hV hU
  go_upto_region 8 with (first
    | (go_at_call 11; refine (within_any _ _ _ (by omega) (by omega) (by omega) (by omega) _).mono ?_; rintro e wq ⟨rfl, hq⟩; have hq := hq.symm; subst hq; rw [HK.out])
    | (go_at_call 8; refine (days_any _ _ _ _ _ _ _ _).mono ?_; rintro e wn ⟨rfl, bn⟩; rw [FD.out, FP.out]; replace hB := below_then hB bn; replace hC := cW _ hB; clear bn)
    | (go_at_call 12; refine (refDays_any _ _ _ _ _ _ _ _ HB.out.1 HB.out.2).mono ?_; rintro e wn ⟨rfl, bn⟩; rw [FD.out, FP.out]; replace hB := below_then hB bn; replace hC := cW _ hB; clear bn)
    | (go_at_call 9; refine (interest_any _ _ _ _ _ _ _ _ _ _).mono ?_; rintro e wn ⟨rfl, bn⟩; rw [FV.out, FU.out]; replace hB := below_then hB bn; replace hC := cW _ hB; clear bn)
    | (go_at_call 13; refine (refInterest_any _ _ _ _ _ _ _ _ _ _ HB.out.1 HB.out.2).mono ?_; rintro e wn ⟨rfl, bn⟩; rw [FV.out, FU.out]; replace hB := below_then hB bn; replace hC := cW _ hB; clear bn))
  have hU : (U == U) = true := by simp
  go_wp2_with (go_at_call 3; refine (accrualRuns_any _).mono ?_; rintro e wn ⟨rfl, bn⟩; replace hB := below_then hB bn; clear bn)
  go_ret
  exact ⟨rfl, below_then bW hB⟩
end Go.Proofs.Ytcnnjegoejphjaa
