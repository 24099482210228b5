/-
  A loan of numbers; the walk of LateRuns.
-/
import Derived.Test.YtbppaomenhdjeaaLate
import Derived.Test.YtbppaomenhdjeaaBkEq
namespace Go.Proofs.Ytbppaomenhdjeaa
open Go.RowKit

set_option maxHeartbeats 1000000 in
/-- A loan of numbers. -/
theorem mkLoan_any (b m : Int) (w : World) :
    Calls Try.prog 10 #[.int .i64 b, .int .i64 m] w fun e w' => e = .returned (LoanP.v ⟨0, b, 0, m, false⟩) ∧ Below w.heap.size w w' := by
  unfold LoanP.v
  go_enter Try.func10, Try.ntmps10
  go_upto_region 2 with fail
  refine wp_letter (fun wx => Below w.heap.size w wx ∧ ∃ g h, w.heap.size = g ∧ g + 1 = h ∧ Blk wx g 29 (LoanP.f ⟨0, 0, 0, 0, false⟩) ∧ Blk wx h 29 (LoanP.f ⟨0, 0, 0, m, false⟩)) ⟨below_alloc (below_alloc (Below.refl _ _) _) _, _, _, rfl, rfl, (Blk.fresh _ _ _).alloc _, Blk.fresh2 _ _ _ _⟩ ?_
  rintro W ⟨hW, g, h, hg, hh, k1, k2⟩
  have hh2 : w.heap.size ≤ h := by omega
  have hgh : g ≠ h := by omega
  rw [hg, hh]
  have f1 := k2.frozen 1; have c1 := k2.cell 1 _ rfl
  go_upto_region 3 with fail
  refine wp_letter (fun wx => Below w.heap.size w wx ∧ Blk wx g 29 (LoanP.f ⟨0, 0, 0, 0, false⟩) ∧ Blk wx h 29 (LoanP.f ⟨0, b, 0, m, false⟩)) ⟨hW.setCell hh2 _, k1.set_other _ _ hgh _, k2.set _ _⟩ ?_
  clear k1 k2 hW f1 c1
  rintro X ⟨hX, k1, k2⟩
  have y0 := k2.cell 0 _ rfl; have y1 := k2.cell 1 _ rfl; have y2 := k2.cell 2 _ rfl; have y3 := k2.cell 3 _ rfl; have y4 := k2.cell 4 _ rfl
  have f0 := k1.frozen 0; have f1 := k1.frozen 1; have f2 := k1.frozen 2; have f3 := k1.frozen 3; have f4 := k1.frozen 4
  have z0 := k1.cell 0 _ rfl; have z1 := k1.cell 1 _ rfl; have z2 := k1.cell 2 _ rfl; have z3 := k1.cell 3 _ rfl; have z4 := k1.cell 4 _ rfl
  go_wp2
  refine post_letter (fun wx => Below w.heap.size w wx ∧ Blk wx g 29 (LoanP.f ⟨0, b, 0, m, false⟩)) ⟨((((hX.setCell (Nat.le_of_eq hg) _).setCell (Nat.le_of_eq hg) _).setCell (Nat.le_of_eq hg) _).setCell (Nat.le_of_eq hg) _).setCell (Nat.le_of_eq hg) _, ((((k1.set 0 _).set 1 _).set 2 _).set 3 _).set 4 _⟩ ?_
  clear hX k1 k2 y0 y1 y2 y3 y4 f0 f1 f2 f3 f4 z0 z1 z2 z3 z4
  rintro X ⟨hX, b3⟩
  have y0 := b3.cell 0 _ rfl; have y1 := b3.cell 1 _ rfl; have y2 := b3.cell 2 _ rfl; have y3 := b3.cell 3 _ rfl; have y4 := b3.cell 4 _ rfl
  exact bodyPost_ret (v := LoanP.v ⟨0, b, 0, m, false⟩) (by simp [results, Try.results10, go_sem, y0, y1, y2, y3, y4, LoanP.v]) rfl ⟨rfl, hg ▸ hX⟩
/-- The loans of the run. -/
def runLo : List LoanP := [⟨0, 5, 0, 1, false⟩, ⟨0, 7, 0, 6, false⟩]
theorem runLo_bk : bkts runLo = ⟨0, 5, 0, 7⟩ := rfl
theorem runLo_ok : ∀ x ∈ runLo, 0 ≤ x.bal ∧ x.bal ≤ 1099511627776 := by
  intro x hx
  simp only [runLo, List.mem_cons, List.not_mem_nil, or_false] at hx
  rcases hx with rfl | rfl <;> simp
theorem lateRuns_any (w : World) : Calls Try.prog 3 #[] w fun e w' => e = .returned (.bool true) ∧ Below w.heap.size w w' := by
  have R1 : Hid (atLeastP 105 100 10500 = true) := by show _ = _; decide
  have R2 : Hid (atLeastP 104 100 10500 = false) := by show _ = _; decide
  have R3 : Hid (atMostP 0 0 5 = true) := by show _ = _; decide
  have L0 : Hid (∀ wx : World, Lies 5 LoanP.f (wx.alloc (.cells #[.int .i64 0, .int .i64 5, .int .i64 0, .int .i64 1, .bool false, .int .i64 0, .int .i64 7, .int .i64 0, .int .i64 6, .bool false] 29)) (.slice (some ⟨wx.heap.size, 0, none⟩) 2 2) runLo) := fun wx => lies_new LoanP.len wx runLo 29 (by unfold maxLen; simp [runLo])
  have BK : Hid ((bkts runLo).v = .agg #[.int .i64 0, .int .i64 5, .int .i64 0, .int .i64 7]) := by show _ = _; rw [runLo_bk]; rfl
  have QE : ∀ wx : World, (Op.equalIn 10000 24 (.agg #[.int .i64 0, .int .i64 5, .int .i64 0, .int .i64 7]) (.agg #[.int .i64 0, .int .i64 5, .int .i64 0, .int .i64 7])).run Try.prog wx = .ok true wx := fun wx => (eq_bk wx Try.underlying24 ⟨0, 5, 0, 7⟩ ⟨0, 5, 0, 7⟩).trans (by simp)
  have b0 : Below w.heap.size w w := Below.refl _ _
  go_enter Try.func3, Try.ntmps3
  go_wp2_with (first
    | (go_at_call 7; refine (atLeast_any _ _ _ _).mono ?_; rintro e wq ⟨rfl, hq⟩; have hq := hq.symm; subst hq; first | rw [R1.out] | rw [R2.out])
    | (go_at_call 8; refine (atMost_any _ _ _ _).mono ?_; rintro e wq ⟨rfl, hq⟩; have hq := hq.symm; subst hq; rw [R3.out])
    | (go_at_call 10; refine (mkLoan_any _ _ _).mono ?_; rintro e w1 ⟨rfl, d1⟩; replace b0 := below_then b0 d1; unfold LoanP.v)
    | (go_at_call 9; refine (lof_any _ runLo _ (L0.out _) runLo_ok (by decide)).mono ?_; rintro e w2 ⟨rfl, d2⟩; replace b0 := below_then (below_alloc b0 _) d2; rw [BK.out]))
  go_ret
  exact ⟨rfl, b0⟩
end Go.Proofs.Ytbppaomenhdjeaa
