/-
  The walk of CivilRuns.
-/
import Derived.Test.YtmmompnianheiaaCivil3
namespace Go.Proofs.Ytmmompnianheiaa
open Go.RowKit

set_option maxRecDepth 100000 in
set_option maxHeartbeats 4000000 in
theorem civilRuns_any (w : World) :
    Calls Try.prog 3 #[] w fun e w' => e = .returned (.bool true) ∧ Below w.heap.size w w' := by
  have n1 : Cal.num 2000 3 1 = 730179 := by decide +kernel
  have n2 : Cal.num 2000 2 28 = 730177 := by decide +kernel
  have s1 : Cal.shY 2024 1 31 1 = 2024 ∧ Cal.shM 2024 1 31 1 = 2 ∧ Cal.shD 2024 1 31 1 = 29 := by decide +kernel
  have s2 : Cal.shY 2024 1 31 13 = 2025 ∧ Cal.shM 2024 1 31 13 = 2 ∧ Cal.shD 2024 1 31 13 = 28 := by decide +kernel
  have r1 : Cal.rightB 1 1 1 = true ∧ Cal.num 1 1 1 = 0 := by decide +kernel
  have l1 : Cal.last 1900 2 = 28 := by decide +kernel
  have hw2 : IntKind.i64.wrap 2 = 2 := by decide +kernel
  go_enter Try.func3, Try.ntmps3
  go_upto_region 3 with fail
  refine wp_letter (fun wx => Below w.heap.size w wx ∧ wx.cell? ⟨w.heap.size, 0, none⟩ = some (.int .i64 2000) ∧ wx.cell? ⟨w.heap.size, 1, none⟩ = some (.int .i64 3) ∧ wx.cell? ⟨w.heap.size, 2, none⟩ = some (.int .i64 1) ∧ wx.cell? ⟨w.heap.size + 1, 0, none⟩ = some (.int .i64 2000) ∧ wx.cell? ⟨w.heap.size + 1, 1, none⟩ = some (.int .i64 2) ∧ wx.cell? ⟨w.heap.size + 1, 2, none⟩ = some (.int .i64 28) ∧ wx.cell? ⟨w.heap.size + 1 + 1, 0, none⟩ = some (.int .i64 2024) ∧ wx.cell? ⟨w.heap.size + 1 + 1, 1, none⟩ = some (.int .i64 1) ∧ wx.cell? ⟨w.heap.size + 1 + 1, 2, none⟩ = some (.int .i64 31)) ?_ ?_
  · refine ⟨below_alloc (below_alloc (below_alloc (Below.refl _ _) _) _) _, ?_⟩
    simp [go_sem]
  rintro W ⟨bW, hW⟩
  have cW : ∀ wx, Below W.heap.size W wx → wx.cell? ⟨w.heap.size, 0, none⟩ = some (.int .i64 2000) ∧ wx.cell? ⟨w.heap.size, 1, none⟩ = some (.int .i64 3) ∧ wx.cell? ⟨w.heap.size, 2, none⟩ = some (.int .i64 1) ∧ wx.cell? ⟨w.heap.size + 1, 0, none⟩ = some (.int .i64 2000) ∧ wx.cell? ⟨w.heap.size + 1, 1, none⟩ = some (.int .i64 2) ∧ wx.cell? ⟨w.heap.size + 1, 2, none⟩ = some (.int .i64 28) ∧ wx.cell? ⟨w.heap.size + 1 + 1, 0, none⟩ = some (.int .i64 2024) ∧ wx.cell? ⟨w.heap.size + 1 + 1, 1, none⟩ = some (.int .i64 1) ∧ wx.cell? ⟨w.heap.size + 1 + 1, 2, none⟩ = some (.int .i64 31) := by
    obtain ⟨c1, c2, c3, c4, c5, c6, c7, c8, c9⟩ := hW
    exact fun wx b => ⟨cell_keep b c1, cell_keep b c2, cell_keep b c3, cell_keep b c4, cell_keep b c5, cell_keep b c6, cell_keep b c7, cell_keep b c8, cell_keep b c9⟩
  clear hW
  obtain ⟨s11, s12, s13⟩ := s1
  obtain ⟨s21, s22, s23⟩ := s2
  obtain ⟨r11, r12⟩ := r1
  go_region_held3 (fun wx => Below W.heap.size W wx ∧ wx.cell? ⟨w.heap.size, 0, none⟩ = some (.int .i64 2000) ∧ wx.cell? ⟨w.heap.size, 1, none⟩ = some (.int .i64 3) ∧ wx.cell? ⟨w.heap.size, 2, none⟩ = some (.int .i64 1) ∧ wx.cell? ⟨w.heap.size + 1, 0, none⟩ = some (.int .i64 2000) ∧ wx.cell? ⟨w.heap.size + 1, 1, none⟩ = some (.int .i64 2) ∧ wx.cell? ⟨w.heap.size + 1, 2, none⟩ = some (.int .i64 28) ∧ wx.cell? ⟨w.heap.size + 1 + 1, 0, none⟩ = some (.int .i64 2024) ∧ wx.cell? ⟨w.heap.size + 1 + 1, 1, none⟩ = some (.int .i64 1) ∧ wx.cell? ⟨w.heap.size + 1 + 1, 2, none⟩ = some (.int .i64 31))
    (first
      | exact ⟨(Below.refl _ _).drew, cW _ (Below.refl _ _).drew⟩
      | (go_split_ands; have hk := below_then (by assumption : Below W.heap.size W _) (by assumption); exact ⟨hk, cW _ hk⟩)
      | (go_split_ands; have hk := (by assumption : Below W.heap.size W _); exact ⟨hk, cW _ hk⟩))
    (first
      | ((go_at_call 8; refine (number_any _ _ _ _).mono ?_; rintro e wn ⟨rfl, bn⟩; first | rw [n1] | rw [n2]))
      | ((go_at_call 9; refine (shift_any _ _ _ _ _).mono ?_; rintro e wn ⟨rfl, bn⟩; first | rw [s11, s12, s13] | rw [s21, s22, s23]))
      | ((go_at_call 10; refine (of_num 1 1 1 _ _ r11 r12).mono ?_; rintro e wn ⟨rfl, bn⟩))
      | ((go_at_call 11; refine (last_any _ _ _).mono ?_; rintro e wn ⟨rfl, rfl⟩; rw [l1]))
      | ((go_at_call 12; refine (before_any _ _ _ _ _ _ _).mono ?_; rintro e wn ⟨rfl, bn⟩; rw [n1, n2])))
  rename_i hH
  have hE := hH.1
  clear hH
  go_wp2
  go_ret
  exact ⟨rfl, below_then bW hE⟩
end Go.Proofs.Ytmmompnianheiaa
