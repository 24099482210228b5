/-
  The walk of AccrualRuns.
-/
import Derived.Test.YtcnnjegoejphjaaAccrual
namespace Go.Proofs.Ytcnnjegoejphjaa
open Go.RowKit

set_option maxRecDepth 100000 in
set_option maxHeartbeats 1000000 in
theorem accrualRuns_any (w : World) :
    Calls Try.prog 3 #[] w fun e w' => e = .returned (.bool true) ∧ Below w.heap.size w w' := by
  have d1 : Acc.days 0 2024 1 31 2024 3 31 = 60 ∧ Acc.per 0 = 360 := by decide +kernel
  have d2 : Acc.days 1 2024 1 31 2024 3 31 = 60 ∧ Acc.per 1 = 360 := by decide +kernel
  have i1 : Acc.intV 1000000 500 0 2024 5 1 2024 6 1 = 4167 ∧ Acc.intB 1000000 500 0 2024 5 1 2024 6 1 = true := by decide +kernel
  have D1 : Hid (Acc.days 0 2024 1 31 2024 3 31 = 60 ∧ Acc.per 0 = 360) := d1
  have D2 : Hid (Acc.days 1 2024 1 31 2024 3 31 = 60 ∧ Acc.per 1 = 360) := d2
  have I1 : Hid (Acc.intV 1000000 500 0 2024 5 1 2024 6 1 = 4167 ∧ Acc.intB 1000000 500 0 2024 5 1 2024 6 1 = true) := i1
  clear d1 d2 i1
  go_enter Try.func3, Try.ntmps3
  go_upto_region 2 with fail
  refine wp_letter (fun wx => Below w.heap.size w wx ∧ wx.cell? ⟨w.heap.size, 0, none⟩ = some (.int .i64 2024) ∧ wx.cell? ⟨w.heap.size, 1, none⟩ = some (.int .i64 1) ∧ wx.cell? ⟨w.heap.size, 2, none⟩ = some (.int .i64 31) ∧ wx.cell? ⟨w.heap.size + 1, 0, none⟩ = some (.int .i64 2024) ∧ wx.cell? ⟨w.heap.size + 1, 1, none⟩ = some (.int .i64 3) ∧ wx.cell? ⟨w.heap.size + 1, 2, none⟩ = some (.int .i64 31)) ?_ ?_
  · refine ⟨?_, ?_⟩
    · exact below_alloc (below_alloc (Below.refl _ _) _) _
    · simp [go_sem]
  rintro W ⟨bW, hW⟩
  have cW : ∀ wx, Below W.heap.size W wx → wx.cell? ⟨w.heap.size, 0, none⟩ = some (.int .i64 2024) ∧ wx.cell? ⟨w.heap.size, 1, none⟩ = some (.int .i64 1) ∧ wx.cell? ⟨w.heap.size, 2, none⟩ = some (.int .i64 31) ∧ wx.cell? ⟨w.heap.size + 1, 0, none⟩ = some (.int .i64 2024) ∧ wx.cell? ⟨w.heap.size + 1, 1, none⟩ = some (.int .i64 3) ∧ wx.cell? ⟨w.heap.size + 1, 2, none⟩ = some (.int .i64 31) := by
    obtain ⟨c1, c2, c3, c4, c5, c6⟩ := hW
    exact fun wx b => ⟨cell_keep b c1, cell_keep b c2, cell_keep b c3, cell_keep b c4, cell_keep b c5, cell_keep b c6⟩
  clear hW
  have hB : Below W.heap.size W W := Below.refl _ _
  have hC := cW _ hB
  go_wp2_with (first
    | (go_at_call 8; refine (days_any _ _ _ _ _ _ _ _).mono ?_; rintro e wn ⟨rfl, bn⟩; (first | rw [D1.out.1, D1.out.2] | rw [D2.out.1, D2.out.2]); replace hB := below_then hB bn; replace hC := cW _ hB; clear bn)
    | (go_at_call 9; refine (interest_any _ _ _ _ _ _ _ _ _ _).mono ?_; rintro e wn ⟨rfl, bn⟩; rw [I1.out.1, I1.out.2]; replace hB := below_then hB bn; replace hC := cW _ hB; clear bn))
  go_ret
  exact ⟨rfl, below_then bW hB⟩
end Go.Proofs.Ytcnnjegoejphjaa
