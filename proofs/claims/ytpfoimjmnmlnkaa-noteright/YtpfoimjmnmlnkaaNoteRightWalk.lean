/-
  The walk of the law NoteRight.
-/
import Derived.Test.YtpfoimjmnmlnkaaNoteRunsWalk
import Derived.Test.YtpfoimjmnmlnkaaBook
namespace Go.Proofs.Ytpfoimjmnmlnkaa
open Go.RowKit


set_option maxRecDepth 100000 in
set_option maxHeartbeats 4000000 in
theorem noteRight_law (what by' : Int) (_w0 : (Lit.int .i64 what).wf = true) (_w1 : (Lit.int .i64 by').wf = true) (w : World) :
    Calls Try.prog 5 #[.int .i64 what, .int .i64 by'] w fun e w' => e = .returned (.bool true) ∧ Below w.heap.size w w' := by
  obtain ⟨K, h1⟩ : ∃ b, 0 + by' % (1099511627776 - 0 + 1) = b := ⟨_, rfl⟩
  obtain ⟨X, h2⟩ : ∃ b, 0 + what % (8 - 0 + 1) = b := ⟨_, rfl⟩
  have g1 : 0 + by' % 1099511627777 = K := h1
  have g2 : 0 + what % 9 = X := h2
  have E1 : Hid (0 + by' % (1099511627776 - 0 + 1) = K) := h1
  have E2 : Hid (0 + what % (8 - 0 + 1) = X) := h2
  have K0 : 0 ≤ K := by omega
  have K1 : K ≤ 1099511627776 := by omega
  have X0 : 0 ≤ X := by omega
  have X1 : X ≤ 8 := by omega
  clear h1 h2 g1 g2 _w0 _w1
  have F1 : Hid (Calm 1099511627776 0 0 0) := by show Calm _ _ _ _; refine ⟨⟨?_, ?_, ?_⟩, ?_, ?_, ?_, ?_⟩ <;> omega
  have F2 : Hid (Calm 1099511627776 549755813888 0 0) := by show Calm _ _ _ _; refine ⟨⟨?_, ?_, ?_⟩, ?_, ?_, ?_, ?_⟩ <;> omega
  have F3 : Hid (Calm 1099511627776 549755813888 0 549755813888) := by show Calm _ _ _ _; refine ⟨⟨?_, ?_, ?_⟩, ?_, ?_, ?_, ?_⟩ <;> omega
  have R1 : Hid (rightN 7 1099511627776 5000 0 0 1152921504606846976 0 = true) := by show _ = _; decide
  have R2 : Hid (rightN 7 1099511627776 5000 549755813888 0 1152921504606846976 549755813888 = true) := by show _ = _; decide
  have P1 : Hid ((if mayPut 0 (upTo (bal 1099511627776 0 0 0) 549755813888) then upTo (bal 1099511627776 0 0 0) 549755813888 else 0) = 549755813888) := by show _ = _; decide
  have P2 : Hid (upTo (bal 1099511627776 549755813888 0 0) 4611686018427387904 = 549755813888) := by show _ = _; decide
  have P3 : Hid (bal 1099511627776 549755813888 0 549755813888 = 0) := by show _ = _; decide
  go_enter Try.func5, Try.ntmps5
  go_upto_region 3 with (first
    | (go_at_call 15; refine (within_any _ _ _ (by omega) (by omega) (by omega) (by omega) _).mono ?_; rintro e wq ⟨rfl, hq⟩; have hq := hq.symm; subst hq; (first | rw [E1.out] | rw [E2.out]))
    | (go_at_call 8; refine (new_any _ _ _ _).mono ?_; rintro e w1 ⟨rfl, b1⟩; unfold noteV))
  refine wp_letter (fun wx => Below w.heap.size w wx ∧ ∃ A, w1.heap.size = A ∧ w.heap.size ≤ A ∧ Nt wx A 0 7 1099511627776 5000 0 0 0 0) ?_ ?_
  · exact ⟨below_alloc b1 _, _, rfl, b1.size, Nt.fresh _ _ _ _ _ _ _ _ _⟩
  rintro W ⟨hB, A, eA, hA, hN⟩
  rw [eA]
  clear eA b1
  obtain ⟨x0, x1, x2, x3, x4, x5, x6, xf⟩ := id hN; have f0 := xf 0 (by omega); have f1 := xf 1 (by omega); have f2 := xf 2 (by omega); have f5 := xf 5 (by omega); have f6 := xf 6 (by omega); clear xf
  go_upto_region 4 with fail
  refine wp_letter (fun wx => Below w.heap.size w wx ∧ Nt wx A 0 7 1099511627776 5000 0 0 1152921504606846976 0) ?_ ?_
  · exact ⟨hB.setCell (p := ⟨A, 5, none⟩) hA _, by simpa using hN.setS 1152921504606846976⟩
  clear hB hN x0 x1 x2 x3 x4 x5 x6 f0 f1 f2 f5 f6
  rintro W2 ⟨hB, hN⟩
  obtain ⟨x0, x1, x2, x3, x4, x5, x6, xf⟩ := id hN; have f0 := xf 0 (by omega); have f1 := xf 1 (by omega); have f2 := xf 2 (by omega); have f5 := xf 5 (by omega); have f6 := xf 6 (by omega); clear xf
  go_upto_region 8 with (first
    | (go_at_call 15; refine (within_any _ _ _ (by omega) (by omega) (by omega) (by omega) _).mono ?_; rintro e wq ⟨rfl, hq⟩; have hq := hq.symm; subst hq; (first | rw [E1.out] | rw [E2.out]))
    | (go_at_call 9; refine (pay_to (t := 549755813888) (i' := 549755813888) hN F1.out P1.out (by omega)).mono ?_; rintro e wn ⟨rfl, cn, pn⟩; replace hB := cn.below hB hA hB.size; replace hN := pn; clear cn pn; obtain ⟨x0, x1, x2, x3, x4, x5, x6, xf⟩ := id hN; have f0 := xf 0 (by omega); have f1 := xf 1 (by omega); have f2 := xf 2 (by omega); have f5 := xf 5 (by omega); have f6 := xf 6 (by omega); clear xf)
    | (go_at_call 10; refine (write_to (t := 549755813888) (d' := 549755813888) hN F2.out P2.out (by omega)).mono ?_; rintro e wn ⟨rfl, cn, pn⟩; replace hB := cn.below hB hA hB.size; replace hN := pn; clear cn pn; obtain ⟨x0, x1, x2, x3, x4, x5, x6, xf⟩ := id hN; have f0 := xf 0 (by omega); have f1 := xf 1 (by omega); have f2 := xf 2 (by omega); have f5 := xf 5 (by omega); have f6 := xf 6 (by omega); clear xf)
    | (go_at_call 12; refine (balance_to (t := 0) F3.out P3.out).mono ?_; rintro e wn ⟨rfl, bn⟩; replace hB := below_then hB bn; replace hN := hN.then bn; clear bn; obtain ⟨x0, x1, x2, x3, x4, x5, x6, xf⟩ := id hN; have f0 := xf 0 (by omega); have f1 := xf 1 (by omega); have f2 := xf 2 (by omega); have f5 := xf 5 (by omega); have f6 := xf 6 (by omega); clear xf)
    | (go_at_call 14; refine (right_to (ok := true) ⟨by omega, by omega, by omega⟩ (by first | exact R1.out | exact R2.out)).mono ?_; rintro e wn ⟨rfl, bn⟩; replace hB := below_then hB bn; replace hN := hN.then bn; clear bn; obtain ⟨x0, x1, x2, x3, x4, x5, x6, xf⟩ := id hN; have f0 := xf 0 (by omega); have f1 := xf 1 (by omega); have f2 := xf 2 (by omega); have f5 := xf 5 (by omega); have f6 := xf 6 (by omega); clear xf))
  clear R1 R2 P1 P2 P3 F1 F2 F3 E1 E2
  have hX : X = 0 ∨ X = 1 ∨ X = 2 ∨ X = 3 ∨ X = 4 ∨ X = 5 ∨ X = 6 ∨ X = 7 ∨ X = 8 := by omega
  clear X0 X1
  rcases hX with rfl | rfl | rfl | rfl | rfl | rfl | rfl | rfl | rfl
  all_goals
    go_wp2_with (first
      | (go_at_call 14; refine (right_to (ok := false) ⟨by omega, by omega, by omega⟩ (by simp only [rightN, inB, Bool.and_eq_false_iff, decide_eq_false_iff_not]; omega)).mono ?_; rintro e wr ⟨rfl, br⟩; replace hB := below_then (hB.setCell (p := ⟨A, _, none⟩) hA _) br; clear br)
      | (go_at_call 3; refine (noteRuns_any _).mono ?_; rintro e wt ⟨rfl, bt⟩))
    go_ret
    exact ⟨rfl, below_then hB bt⟩
end Go.Proofs.Ytpfoimjmnmlnkaa
