/-
  The walk of CivilBack.
-/
import Derived.Test.YtmmompnianheiaaCivilRunsWalk
import Derived.Test.YtmmompnianheiaaBook
import Derived.Test.YtmmompnianheiaaCal2
namespace Go.Proofs.Ytmmompnianheiaa
open Go.RowKit

set_option maxRecDepth 100000 in
set_option maxHeartbeats 4000000 in
theorem civilBack_any (n m : Int) (_w0 : (Lit.int .i64 n).wf = true) (_w1 : (Lit.int .i64 m).wf = true) (w : World) :
    Calls Try.prog 5 #[.int .i64 n, .int .i64 m] w fun e w' => e = .returned (.bool true) ∧ Below w.heap.size w w' := by
  go_enter Try.func5, Try.ntmps5
  go_upto_region 2 with (go_at_call 19; refine (within_any _ _ _ (by omega) (by omega) (by omega) (by omega) _).mono ?_; rintro e wq ⟨rfl, hq⟩; have hq := hq.symm; subst hq)
  obtain ⟨a, ha⟩ : ∃ a, n % 3652058 = a := ⟨_, rfl⟩
  obtain ⟨b, hb⟩ : ∃ b, m % 3652059 = b := ⟨_, rfl⟩
  rw [ha, hb]
  have a0 : 0 ≤ a := by omega
  have a9 : a ≤ 3652057 := by omega
  have b0 : 0 ≤ b := by omega
  have b9 : b ≤ 3652058 := by omega
  clear ha hb
  go_upto_region 3 with fail
  refine (of_yes a _ (by omega) (by omega)).mono ?_
  rintro e w1 ⟨⟨y1, m1, d1, rfl, r1, n1⟩, k1⟩
  go_wp2_with fail
  refine (of_yes (a + 1) _ (by omega) (by omega)).mono ?_
  rintro e w2 ⟨⟨y2, m2, d2, rfl, r2, n2⟩, k2⟩
  go_wp2_with fail
  refine (of_yes b _ (by omega) (by omega)).mono ?_
  rintro e w3 ⟨⟨y3, m3, d3, rfl, r3, n3⟩, k3⟩
  have R1 : Hid (Cal.rightB y1 m1 d1 = true) := r1
  have R2 : Hid (Cal.rightB y2 m2 d2 = true) := r2
  have N1 : Hid (Cal.num y1 m1 d1 = a) := n1
  have N2 : Hid (Cal.num y2 m2 d2 = a + 1) := n2
  have N3 : Hid (Cal.num y3 m3 d3 = b) := n3
  have K : Below w.heap.size w w3 := below_then (below_then k1 k2) k3
  clear r1 r2 r3 n1 n2 n3 k1 k2 k3
  go_upto_region 3 with fail
  refine wp_letter (fun wx => Below w.heap.size w wx ∧ ∃ B, w3.heap.size = B ∧ wx.cell? ⟨B, 0, none⟩ = some (.int .i64 y1) ∧ wx.cell? ⟨B, 1, none⟩ = some (.int .i64 m1) ∧ wx.cell? ⟨B, 2, none⟩ = some (.int .i64 d1) ∧ wx.cell? ⟨B + 1, 0, none⟩ = some (.int .i64 y2) ∧ wx.cell? ⟨B + 1, 1, none⟩ = some (.int .i64 m2) ∧ wx.cell? ⟨B + 1, 2, none⟩ = some (.int .i64 d2) ∧ wx.cell? ⟨B + 1 + 1, 0, none⟩ = some (.int .i64 y3) ∧ wx.cell? ⟨B + 1 + 1, 1, none⟩ = some (.int .i64 m3) ∧ wx.cell? ⟨B + 1 + 1, 2, none⟩ = some (.int .i64 d3)) ?_ ?_
  · exact ⟨below_alloc (below_alloc (below_alloc K _) _) _, _, rfl, by simp [go_sem]⟩
  rintro W ⟨bW, B, eB, hC⟩
  rw [eB]
  clear eB K
  have cW : ∀ wx, Below W.heap.size W wx → wx.cell? ⟨B, 0, none⟩ = some (.int .i64 y1) ∧ wx.cell? ⟨B, 1, none⟩ = some (.int .i64 m1) ∧ wx.cell? ⟨B, 2, none⟩ = some (.int .i64 d1) ∧ wx.cell? ⟨B + 1, 0, none⟩ = some (.int .i64 y2) ∧ wx.cell? ⟨B + 1, 1, none⟩ = some (.int .i64 m2) ∧ wx.cell? ⟨B + 1, 2, none⟩ = some (.int .i64 d2) ∧ wx.cell? ⟨B + 1 + 1, 0, none⟩ = some (.int .i64 y3) ∧ wx.cell? ⟨B + 1 + 1, 1, none⟩ = some (.int .i64 m3) ∧ wx.cell? ⟨B + 1 + 1, 2, none⟩ = some (.int .i64 d3) := by
    obtain ⟨c1, c2, c3, c4, c5, c6, c7, c8, c9⟩ := hC
    exact fun wx b => ⟨cell_keep b c1, cell_keep b c2, cell_keep b c3, cell_keep b c4, cell_keep b c5, cell_keep b c6, cell_keep b c7, cell_keep b c8, cell_keep b c9⟩
  have hB : Below W.heap.size W W := Below.refl _ _
  obtain ⟨u, hu⟩ : ∃ u, decide (a < b) = u := ⟨_, rfl⟩
  have HU : Hid (decide (a < b) = u) := hu
  go_upto_region 5 with (first
    | (go_at_call 16; refine (right_date _ _ _ _).mono ?_; rintro e wn ⟨rfl, bn⟩; replace hB := below_then hB bn; replace hC := cW _ hB; clear bn; first | rw [R1.out] | rw [R2.out])
    | (go_at_call 8; refine (number_any _ _ _ _).mono ?_; rintro e wn ⟨rfl, bn⟩; replace hB := below_then hB bn; replace hC := cW _ hB; clear bn; first | rw [N1.out] | rw [N2.out])
    | (go_at_call 12; refine (before_any _ _ _ _ _ _ _).mono ?_; rintro e wn ⟨rfl, bn⟩; replace hB := below_then hB bn; replace hC := cW _ hB; clear bn; rw [N1.out, N3.out, HU.out]))
  have hi := Cal.right_in R1.out
  obtain ⟨i1, i2, i3, i4, i5, i6⟩ := hi
  have i7 := (Cal.last_lo y1 m1).2
  obtain ⟨L, hL⟩ : ∃ L, Cal.last y1 m1 = L := ⟨_, rfl⟩
  rw [hL] at i2 i7
  have HL : Hid (Cal.last y1 m1 = L) := hL
  have l1 : B < wn.heap.size := World.block_lt_of_cell? _ ⟨B, 0, none⟩ hC.1
  have l2 : B + 1 < wn.heap.size := World.block_lt_of_cell? _ ⟨B + 1, 0, none⟩ hC.2.2.2.1
  have nd := Cal.next_day R1.out R2.out (by rw [N1.out, N2.out])
  rw [hL] at nd
  have ND : Hid ((d1 < L ∧ y2 = y1 ∧ m2 = m1 ∧ d2 = d1 + 1) ∨ (d1 = L ∧ m1 < 12 ∧ y2 = y1 ∧ m2 = m1 + 1 ∧ d2 = 1) ∨ (d1 = L ∧ m1 = 12 ∧ y2 = y1 + 1 ∧ m2 = 1 ∧ d2 = 1)) := nd
  clear nd hL hu
  go_upto_region 6 with fail
  rcases ND.out with ⟨c1, q1, q2, q3⟩ | ⟨c1, c2, q1, q2, q3⟩ | ⟨c1, c2, q1, q2, q3⟩
  · have Q : Hid (y2 = y1 ∧ m2 = m1 ∧ d2 = d1 + 1) := ⟨q1, q2, q3⟩
    have hd : (d1 == L) = false := beq_eq_false_iff_ne.2 (by omega)
    have hL := HL.out
    clear q1 q2 q3
    go_quiet ((go_at_call 11; exact Calls.quiet_of_same (last_any _ _ _)))
    go_upto_region 10 with fail
    refine wp_letter (fun wx => Below w.heap.size w wx ∧ ∃ E, wn.heap.size = E ∧ wx.cell? ⟨B, 0, none⟩ = some (.int .i64 y1) ∧ wx.cell? ⟨B, 1, none⟩ = some (.int .i64 m1) ∧ wx.cell? ⟨B, 2, none⟩ = some (.int .i64 d1) ∧ wx.cell? ⟨B + 1, 0, none⟩ = some (.int .i64 y2) ∧ wx.cell? ⟨B + 1, 1, none⟩ = some (.int .i64 m2) ∧ wx.cell? ⟨B + 1, 2, none⟩ = some (.int .i64 d2) ∧ wx.cell? ⟨E, 0, none⟩ = some (.int .i64 y2) ∧ wx.cell? ⟨E, 1, none⟩ = some (.int .i64 m2) ∧ wx.cell? ⟨E, 2, none⟩ = some (.int .i64 d2)) ?_ ?_
    · refine ⟨below_draws (below_alloc (below_then bW hB) _) _, _, rfl, ?_⟩
      have E1 := Q.out.1
      have E2 := Q.out.2.1
      have E3 := Q.out.2.2
      obtain ⟨g1, g2, g3, g4, g5, g6, -⟩ := hC
      simp (maxDischargeDepth := 12) [go_sem, l1, l2, g1, g2, g3, g4, g5, g6, E1, E2, E3]
    rintro W2 ⟨bW2, E, eE, hC2⟩
    rw [eE]
    have cW2 : ∀ wx, Below W2.heap.size W2 wx → wx.cell? ⟨B, 0, none⟩ = some (.int .i64 y1) ∧ wx.cell? ⟨B, 1, none⟩ = some (.int .i64 m1) ∧ wx.cell? ⟨B, 2, none⟩ = some (.int .i64 d1) ∧ wx.cell? ⟨B + 1, 0, none⟩ = some (.int .i64 y2) ∧ wx.cell? ⟨B + 1, 1, none⟩ = some (.int .i64 m2) ∧ wx.cell? ⟨B + 1, 2, none⟩ = some (.int .i64 d2) ∧ wx.cell? ⟨E, 0, none⟩ = some (.int .i64 y2) ∧ wx.cell? ⟨E, 1, none⟩ = some (.int .i64 m2) ∧ wx.cell? ⟨E, 2, none⟩ = some (.int .i64 d2) := by
      obtain ⟨c1, c2, c3, c4, c5, c6, c7, c8, c9⟩ := hC2
      exact fun wx b => ⟨cell_keep b c1, cell_keep b c2, cell_keep b c3, cell_keep b c4, cell_keep b c5, cell_keep b c6, cell_keep b c7, cell_keep b c8, cell_keep b c9⟩
    clear eE l1 l2 hB hC bW cW
    have hw1 : IntKind.i64.wrap (a + 146097) = a + 146097 := wrap_in _ (by omega) (by omega)
    have hw2 : IntKind.i64.wrap (y1 + 400) = y1 + 400 := wrap_in _ (by omega) (by omega)
    by_cases h4 : a + 146097 ≤ 3652058
    · have pf := Cal.plus_400 R1.out (by rw [N1.out]; omega)
      rw [N1.out] at pf
      have PF : Hid (Cal.rightB (y1 + 400) m1 d1 = true ∧ Cal.num (y1 + 400) m1 d1 = a + 146097) := pf
      have hg : decide (a + 146097 ≤ 3652058) = true := decide_eq_true h4
      clear pf h4
      go_region_held3 (fun wx => Below W2.heap.size W2 wx ∧ wx.cell? ⟨B, 0, none⟩ = some (.int .i64 y1) ∧ wx.cell? ⟨B, 1, none⟩ = some (.int .i64 m1) ∧ wx.cell? ⟨B, 2, none⟩ = some (.int .i64 d1) ∧ wx.cell? ⟨B + 1, 0, none⟩ = some (.int .i64 y2) ∧ wx.cell? ⟨B + 1, 1, none⟩ = some (.int .i64 m2) ∧ wx.cell? ⟨B + 1, 2, none⟩ = some (.int .i64 d2) ∧ wx.cell? ⟨E, 0, none⟩ = some (.int .i64 y2) ∧ wx.cell? ⟨E, 1, none⟩ = some (.int .i64 m2) ∧ wx.cell? ⟨E, 2, none⟩ = some (.int .i64 d2))
        (first
          | exact ⟨(Below.refl _ _).drew, cW2 _ (Below.refl _ _).drew⟩
          | (go_split_ands; have hk := below_then (by assumption : Below W2.heap.size W2 _) (by assumption); exact ⟨hk, cW2 _ hk⟩))
        (first
          | ((go_at_call 10; refine (of_num (y1 + 400) m1 d1 _ _ PF.out.1 PF.out.2).mono ?_; rintro e wn ⟨rfl, bn⟩)))
      rename_i hH
      obtain ⟨hB, hC⟩ := hH
      go_wp2_with (first
        | (go_at_call 10; refine (of_no _ _ (by omega)).mono ?_; rintro e wm ⟨rfl, bm⟩; replace hB := below_then hB bm; clear bm)
        | (go_at_call 3; refine (civilRuns_any _).mono ?_; rintro e wm ⟨rfl, bm⟩; replace hB := below_then hB bm; clear bm))
      go_ret
      exact ⟨rfl, below_then bW2 hB⟩
    · have hg : decide (a + 146097 ≤ 3652058) = false := by simpa using h4
      clear h4
      go_quiet (fail)
      have hB : Below W2.heap.size W2 (W2.drewN nq) := below_draws (Below.refl _ _) _
      have hC := hC2
      go_wp2_with (first
        | (go_at_call 10; refine (of_no _ _ (by omega)).mono ?_; rintro e wm ⟨rfl, bm⟩; replace hB := below_then hB bm; clear bm)
        | (go_at_call 3; refine (civilRuns_any _).mono ?_; rintro e wm ⟨rfl, bm⟩; replace hB := below_then hB bm; clear bm))
      go_ret
      exact ⟨rfl, below_then bW2 hB⟩
  · have Q : Hid (y2 = y1 ∧ m2 = m1 + 1 ∧ d2 = 1) := ⟨q1, q2, q3⟩
    subst c1
    have hm : (m1 == 12) = false := beq_eq_false_iff_ne.2 (by omega)
    have hL := HL.out
    clear q1 q2 q3
    go_quiet ((go_at_call 11; exact Calls.quiet_of_same (last_any _ _ _)))
    go_upto_region 10 with fail
    refine wp_letter (fun wx => Below w.heap.size w wx ∧ ∃ E, wn.heap.size = E ∧ wx.cell? ⟨B, 0, none⟩ = some (.int .i64 y1) ∧ wx.cell? ⟨B, 1, none⟩ = some (.int .i64 m1) ∧ wx.cell? ⟨B, 2, none⟩ = some (.int .i64 d1) ∧ wx.cell? ⟨B + 1, 0, none⟩ = some (.int .i64 y2) ∧ wx.cell? ⟨B + 1, 1, none⟩ = some (.int .i64 m2) ∧ wx.cell? ⟨B + 1, 2, none⟩ = some (.int .i64 d2) ∧ wx.cell? ⟨E, 0, none⟩ = some (.int .i64 y2) ∧ wx.cell? ⟨E, 1, none⟩ = some (.int .i64 m2) ∧ wx.cell? ⟨E, 2, none⟩ = some (.int .i64 d2)) ?_ ?_
    · refine ⟨(((below_draws (below_alloc (below_then bW hB) _) _).setCell (by have := bW.size; have := hB.size; simp; omega) _).setCell (by have := bW.size; have := hB.size; simp; omega) _).setCell (by have := bW.size; have := hB.size; simp; omega) _, _, rfl, ?_⟩
      have E1 := Q.out.1
      have E2 := Q.out.2.1
      have E3 := Q.out.2.2
      obtain ⟨g1, g2, g3, g4, g5, g6, -⟩ := hC
      simp (maxDischargeDepth := 12) [go_sem, l1, l2, g1, g2, g3, g4, g5, g6, E1, E2, E3]
    rintro W2 ⟨bW2, E, eE, hC2⟩
    rw [eE]
    have cW2 : ∀ wx, Below W2.heap.size W2 wx → wx.cell? ⟨B, 0, none⟩ = some (.int .i64 y1) ∧ wx.cell? ⟨B, 1, none⟩ = some (.int .i64 m1) ∧ wx.cell? ⟨B, 2, none⟩ = some (.int .i64 d1) ∧ wx.cell? ⟨B + 1, 0, none⟩ = some (.int .i64 y2) ∧ wx.cell? ⟨B + 1, 1, none⟩ = some (.int .i64 m2) ∧ wx.cell? ⟨B + 1, 2, none⟩ = some (.int .i64 d2) ∧ wx.cell? ⟨E, 0, none⟩ = some (.int .i64 y2) ∧ wx.cell? ⟨E, 1, none⟩ = some (.int .i64 m2) ∧ wx.cell? ⟨E, 2, none⟩ = some (.int .i64 d2) := by
      obtain ⟨c1, c2, c3, c4, c5, c6, c7, c8, c9⟩ := hC2
      exact fun wx b => ⟨cell_keep b c1, cell_keep b c2, cell_keep b c3, cell_keep b c4, cell_keep b c5, cell_keep b c6, cell_keep b c7, cell_keep b c8, cell_keep b c9⟩
    clear eE l1 l2 hB hC bW cW
    have hw1 : IntKind.i64.wrap (a + 146097) = a + 146097 := wrap_in _ (by omega) (by omega)
    have hw2 : IntKind.i64.wrap (y1 + 400) = y1 + 400 := wrap_in _ (by omega) (by omega)
    by_cases h4 : a + 146097 ≤ 3652058
    · have pf := Cal.plus_400 R1.out (by rw [N1.out]; omega)
      rw [N1.out] at pf
      have PF : Hid (Cal.rightB (y1 + 400) m1 d1 = true ∧ Cal.num (y1 + 400) m1 d1 = a + 146097) := pf
      have hg : decide (a + 146097 ≤ 3652058) = true := decide_eq_true h4
      clear pf h4
      go_region_held3 (fun wx => Below W2.heap.size W2 wx ∧ wx.cell? ⟨B, 0, none⟩ = some (.int .i64 y1) ∧ wx.cell? ⟨B, 1, none⟩ = some (.int .i64 m1) ∧ wx.cell? ⟨B, 2, none⟩ = some (.int .i64 d1) ∧ wx.cell? ⟨B + 1, 0, none⟩ = some (.int .i64 y2) ∧ wx.cell? ⟨B + 1, 1, none⟩ = some (.int .i64 m2) ∧ wx.cell? ⟨B + 1, 2, none⟩ = some (.int .i64 d2) ∧ wx.cell? ⟨E, 0, none⟩ = some (.int .i64 y2) ∧ wx.cell? ⟨E, 1, none⟩ = some (.int .i64 m2) ∧ wx.cell? ⟨E, 2, none⟩ = some (.int .i64 d2))
        (first
          | exact ⟨(Below.refl _ _).drew, cW2 _ (Below.refl _ _).drew⟩
          | (go_split_ands; have hk := below_then (by assumption : Below W2.heap.size W2 _) (by assumption); exact ⟨hk, cW2 _ hk⟩))
        (first
          | ((go_at_call 10; refine (of_num (y1 + 400) m1 d1 _ _ PF.out.1 PF.out.2).mono ?_; rintro e wn ⟨rfl, bn⟩)))
      rename_i hH
      obtain ⟨hB, hC⟩ := hH
      go_wp2_with (first
        | (go_at_call 10; refine (of_no _ _ (by omega)).mono ?_; rintro e wm ⟨rfl, bm⟩; replace hB := below_then hB bm; clear bm)
        | (go_at_call 3; refine (civilRuns_any _).mono ?_; rintro e wm ⟨rfl, bm⟩; replace hB := below_then hB bm; clear bm))
      go_ret
      exact ⟨rfl, below_then bW2 hB⟩
    · have hg : decide (a + 146097 ≤ 3652058) = false := by simpa using h4
      clear h4
      go_quiet (fail)
      have hB : Below W2.heap.size W2 (W2.drewN nq) := below_draws (Below.refl _ _) _
      have hC := hC2
      go_wp2_with (first
        | (go_at_call 10; refine (of_no _ _ (by omega)).mono ?_; rintro e wm ⟨rfl, bm⟩; replace hB := below_then hB bm; clear bm)
        | (go_at_call 3; refine (civilRuns_any _).mono ?_; rintro e wm ⟨rfl, bm⟩; replace hB := below_then hB bm; clear bm))
      go_ret
      exact ⟨rfl, below_then bW2 hB⟩
  · have Q : Hid (y2 = y1 + 1 ∧ m2 = 1 ∧ d2 = 1) := ⟨q1, q2, q3⟩
    subst c1
    have hm : (m1 == 12) = true := beq_iff_eq.2 c2
    clear c2
    have hL := HL.out
    clear q1 q2 q3
    go_quiet ((go_at_call 11; exact Calls.quiet_of_same (last_any _ _ _)))
    go_upto_region 10 with fail
    refine wp_letter (fun wx => Below w.heap.size w wx ∧ ∃ E, wn.heap.size = E ∧ wx.cell? ⟨B, 0, none⟩ = some (.int .i64 y1) ∧ wx.cell? ⟨B, 1, none⟩ = some (.int .i64 m1) ∧ wx.cell? ⟨B, 2, none⟩ = some (.int .i64 d1) ∧ wx.cell? ⟨B + 1, 0, none⟩ = some (.int .i64 y2) ∧ wx.cell? ⟨B + 1, 1, none⟩ = some (.int .i64 m2) ∧ wx.cell? ⟨B + 1, 2, none⟩ = some (.int .i64 d2) ∧ wx.cell? ⟨E, 0, none⟩ = some (.int .i64 y2) ∧ wx.cell? ⟨E, 1, none⟩ = some (.int .i64 m2) ∧ wx.cell? ⟨E, 2, none⟩ = some (.int .i64 d2)) ?_ ?_
    · refine ⟨((((((below_draws (below_alloc (below_then bW hB) _) _).setCell (by have := bW.size; have := hB.size; simp; omega) _).setCell (by have := bW.size; have := hB.size; simp; omega) _).setCell (by have := bW.size; have := hB.size; simp; omega) _).setCell (by have := bW.size; have := hB.size; simp; omega) _).setCell (by have := bW.size; have := hB.size; simp; omega) _).setCell (by have := bW.size; have := hB.size; simp; omega) _, _, rfl, ?_⟩
      have E1 := Q.out.1
      have E2 := Q.out.2.1
      have E3 := Q.out.2.2
      obtain ⟨g1, g2, g3, g4, g5, g6, -⟩ := hC
      simp (maxDischargeDepth := 12) [go_sem, l1, l2, g1, g2, g3, g4, g5, g6, E1, E2, E3]
    rintro W2 ⟨bW2, E, eE, hC2⟩
    rw [eE]
    have cW2 : ∀ wx, Below W2.heap.size W2 wx → wx.cell? ⟨B, 0, none⟩ = some (.int .i64 y1) ∧ wx.cell? ⟨B, 1, none⟩ = some (.int .i64 m1) ∧ wx.cell? ⟨B, 2, none⟩ = some (.int .i64 d1) ∧ wx.cell? ⟨B + 1, 0, none⟩ = some (.int .i64 y2) ∧ wx.cell? ⟨B + 1, 1, none⟩ = some (.int .i64 m2) ∧ wx.cell? ⟨B + 1, 2, none⟩ = some (.int .i64 d2) ∧ wx.cell? ⟨E, 0, none⟩ = some (.int .i64 y2) ∧ wx.cell? ⟨E, 1, none⟩ = some (.int .i64 m2) ∧ wx.cell? ⟨E, 2, none⟩ = some (.int .i64 d2) := by
      obtain ⟨c1, c2, c3, c4, c5, c6, c7, c8, c9⟩ := hC2
      exact fun wx b => ⟨cell_keep b c1, cell_keep b c2, cell_keep b c3, cell_keep b c4, cell_keep b c5, cell_keep b c6, cell_keep b c7, cell_keep b c8, cell_keep b c9⟩
    clear eE l1 l2 hB hC bW cW
    have hw1 : IntKind.i64.wrap (a + 146097) = a + 146097 := wrap_in _ (by omega) (by omega)
    have hw2 : IntKind.i64.wrap (y1 + 400) = y1 + 400 := wrap_in _ (by omega) (by omega)
    by_cases h4 : a + 146097 ≤ 3652058
    · have pf := Cal.plus_400 R1.out (by rw [N1.out]; omega)
      rw [N1.out] at pf
      have PF : Hid (Cal.rightB (y1 + 400) m1 d1 = true ∧ Cal.num (y1 + 400) m1 d1 = a + 146097) := pf
      have hg : decide (a + 146097 ≤ 3652058) = true := decide_eq_true h4
      clear pf h4
      go_region_held3 (fun wx => Below W2.heap.size W2 wx ∧ wx.cell? ⟨B, 0, none⟩ = some (.int .i64 y1) ∧ wx.cell? ⟨B, 1, none⟩ = some (.int .i64 m1) ∧ wx.cell? ⟨B, 2, none⟩ = some (.int .i64 d1) ∧ wx.cell? ⟨B + 1, 0, none⟩ = some (.int .i64 y2) ∧ wx.cell? ⟨B + 1, 1, none⟩ = some (.int .i64 m2) ∧ wx.cell? ⟨B + 1, 2, none⟩ = some (.int .i64 d2) ∧ wx.cell? ⟨E, 0, none⟩ = some (.int .i64 y2) ∧ wx.cell? ⟨E, 1, none⟩ = some (.int .i64 m2) ∧ wx.cell? ⟨E, 2, none⟩ = some (.int .i64 d2))
        (first
          | exact ⟨(Below.refl _ _).drew, cW2 _ (Below.refl _ _).drew⟩
          | (go_split_ands; have hk := below_then (by assumption : Below W2.heap.size W2 _) (by assumption); exact ⟨hk, cW2 _ hk⟩))
        (first
          | ((go_at_call 10; refine (of_num (y1 + 400) m1 d1 _ _ PF.out.1 PF.out.2).mono ?_; rintro e wn ⟨rfl, bn⟩)))
      rename_i hH
      obtain ⟨hB, hC⟩ := hH
      go_wp2_with (first
        | (go_at_call 10; refine (of_no _ _ (by omega)).mono ?_; rintro e wm ⟨rfl, bm⟩; replace hB := below_then hB bm; clear bm)
        | (go_at_call 3; refine (civilRuns_any _).mono ?_; rintro e wm ⟨rfl, bm⟩; replace hB := below_then hB bm; clear bm))
      go_ret
      exact ⟨rfl, below_then bW2 hB⟩
    · have hg : decide (a + 146097 ≤ 3652058) = false := by simpa using h4
      clear h4
      go_quiet (fail)
      have hB : Below W2.heap.size W2 (W2.drewN nq) := below_draws (Below.refl _ _) _
      have hC := hC2
      go_wp2_with (first
        | (go_at_call 10; refine (of_no _ _ (by omega)).mono ?_; rintro e wm ⟨rfl, bm⟩; replace hB := below_then hB bm; clear bm)
        | (go_at_call 3; refine (civilRuns_any _).mono ?_; rintro e wm ⟨rfl, bm⟩; replace hB := below_then hB bm; clear bm))
      go_ret
      exact ⟨rfl, below_then bW2 hB⟩
end Go.Proofs.Ytmmompnianheiaa
