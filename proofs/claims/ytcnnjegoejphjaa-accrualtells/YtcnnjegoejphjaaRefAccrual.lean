/-
  The document's own answer to chapter 3: the walk of Days where a date is wrong.
-/
import Derived.Test.YtcnnjegoejphjaaRefCivil2
import Derived.Test.YtcnnjegoejphjaaRefMulDiv
import Derived.Test.YtcnnjegoejphjaaAcc
namespace Go.Proofs.Ytcnnjegoejphjaa
open Go.RowKit

set_option maxHeartbeats 4000000 in
set_option maxRecDepth 100000 in
theorem refDays_a (k y m d p q r : Int) (w : World) (ha : Cal.rightB y m d = false) :
    Calls Try.prog 12 #[.int .i64 k, .agg #[.int .i64 y, .int .i64 m, .int .i64 d], .agg #[.int .i64 p, .int .i64 q, .int .i64 r]] w fun e w' => e = .returned (.tuple #[.int .i64 0, .int .i64 (if k = 2 then 365 else 360)]) ∧ Below w.heap.size w w' := by
  have HA : Hid (Cal.rightB y m d = false) := ha
  have HB := HA
  clear ha
  by_cases h2 : k = 2
  · rw [if_pos h2]
    (go_enter Try.func12, Try.ntmps12); (go_upto_region 1 with fail); refine wp_letter (fun wx => Below w.heap.size w wx ∧ wx.cell? ⟨w.heap.size, 0, none⟩ = some (.int .i64 y) ∧ wx.cell? ⟨w.heap.size, 1, none⟩ = some (.int .i64 m) ∧ wx.cell? ⟨w.heap.size, 2, none⟩ = some (.int .i64 d) ∧ wx.cell? ⟨w.heap.size + 1, 0, none⟩ = some (.int .i64 p) ∧ wx.cell? ⟨w.heap.size + 1, 1, none⟩ = some (.int .i64 q) ∧ wx.cell? ⟨w.heap.size + 1, 2, none⟩ = some (.int .i64 r)) ⟨below_alloc (below_alloc (Below.refl _ _) _) _, by simp [go_sem]⟩ ?_; rintro W ⟨bW, hW⟩; have cW : ∀ wx, Below W.heap.size W wx → wx.cell? ⟨w.heap.size, 0, none⟩ = some (.int .i64 y) ∧ wx.cell? ⟨w.heap.size, 1, none⟩ = some (.int .i64 m) ∧ wx.cell? ⟨w.heap.size, 2, none⟩ = some (.int .i64 d) ∧ wx.cell? ⟨w.heap.size + 1, 0, none⟩ = some (.int .i64 p) ∧ wx.cell? ⟨w.heap.size + 1, 1, none⟩ = some (.int .i64 q) ∧ wx.cell? ⟨w.heap.size + 1, 2, none⟩ = some (.int .i64 r) := (by obtain ⟨c1, c2, c3, c4, c5, c6⟩ := hW; exact fun wx b => ⟨cell_keep b c1, cell_keep b c2, cell_keep b c3, cell_keep b c4, cell_keep b c5, cell_keep b c6⟩); clear hW; have hB : Below W.heap.size W W.drew := (Below.refl _ _).drew; have hC := cW _ (Below.refl _ _)
    go_upto_region 4 with fail
    (first | (go_region_with ((go_at_call 23; refine (refRight_any _ _ _ _).mono ?_; rintro e wn ⟨rfl, bn⟩; (first | rw [HA.out] | rw [HB.out]); replace hB := below_then hB bn; replace hC := cW _ hB; clear bn))) | fail)
    all_goals
      go_wp2
      go_ret2
      exact ⟨rfl, below_then bW hB⟩
  · rw [if_neg h2]
    (go_enter Try.func12, Try.ntmps12); (go_upto_region 1 with fail); refine wp_letter (fun wx => Below w.heap.size w wx ∧ wx.cell? ⟨w.heap.size, 0, none⟩ = some (.int .i64 y) ∧ wx.cell? ⟨w.heap.size, 1, none⟩ = some (.int .i64 m) ∧ wx.cell? ⟨w.heap.size, 2, none⟩ = some (.int .i64 d) ∧ wx.cell? ⟨w.heap.size + 1, 0, none⟩ = some (.int .i64 p) ∧ wx.cell? ⟨w.heap.size + 1, 1, none⟩ = some (.int .i64 q) ∧ wx.cell? ⟨w.heap.size + 1, 2, none⟩ = some (.int .i64 r)) ⟨below_alloc (below_alloc (Below.refl _ _) _) _, by simp [go_sem]⟩ ?_; rintro W ⟨bW, hW⟩; have cW : ∀ wx, Below W.heap.size W wx → wx.cell? ⟨w.heap.size, 0, none⟩ = some (.int .i64 y) ∧ wx.cell? ⟨w.heap.size, 1, none⟩ = some (.int .i64 m) ∧ wx.cell? ⟨w.heap.size, 2, none⟩ = some (.int .i64 d) ∧ wx.cell? ⟨w.heap.size + 1, 0, none⟩ = some (.int .i64 p) ∧ wx.cell? ⟨w.heap.size + 1, 1, none⟩ = some (.int .i64 q) ∧ wx.cell? ⟨w.heap.size + 1, 2, none⟩ = some (.int .i64 r) := (by obtain ⟨c1, c2, c3, c4, c5, c6⟩ := hW; exact fun wx b => ⟨cell_keep b c1, cell_keep b c2, cell_keep b c3, cell_keep b c4, cell_keep b c5, cell_keep b c6⟩); clear hW; have hB : Below W.heap.size W W.drew := (Below.refl _ _).drew; have hC := cW _ (Below.refl _ _)
    go_upto_region 4 with fail
    (first | (go_region_with ((go_at_call 23; refine (refRight_any _ _ _ _).mono ?_; rintro e wn ⟨rfl, bn⟩; (first | rw [HA.out] | rw [HB.out]); replace hB := below_then hB bn; replace hC := cW _ hB; clear bn))) | fail)
    all_goals
      go_wp2
      go_ret2
      exact ⟨rfl, below_then bW hB⟩
set_option maxHeartbeats 4000000 in
set_option maxRecDepth 100000 in
theorem refDays_b (k y m d p q r : Int) (w : World) (ha : Cal.rightB y m d = true) (hb : Cal.rightB p q r = false) :
    Calls Try.prog 12 #[.int .i64 k, .agg #[.int .i64 y, .int .i64 m, .int .i64 d], .agg #[.int .i64 p, .int .i64 q, .int .i64 r]] w fun e w' => e = .returned (.tuple #[.int .i64 0, .int .i64 (if k = 2 then 365 else 360)]) ∧ Below w.heap.size w w' := by
  have HA : Hid (Cal.rightB y m d = true) := ha
  have HB : Hid (Cal.rightB p q r = false) := hb
  clear ha hb
  by_cases h2 : k = 2
  · rw [if_pos h2]
    (go_enter Try.func12, Try.ntmps12); (go_upto_region 1 with fail); refine wp_letter (fun wx => Below w.heap.size w wx ∧ wx.cell? ⟨w.heap.size, 0, none⟩ = some (.int .i64 y) ∧ wx.cell? ⟨w.heap.size, 1, none⟩ = some (.int .i64 m) ∧ wx.cell? ⟨w.heap.size, 2, none⟩ = some (.int .i64 d) ∧ wx.cell? ⟨w.heap.size + 1, 0, none⟩ = some (.int .i64 p) ∧ wx.cell? ⟨w.heap.size + 1, 1, none⟩ = some (.int .i64 q) ∧ wx.cell? ⟨w.heap.size + 1, 2, none⟩ = some (.int .i64 r)) ⟨below_alloc (below_alloc (Below.refl _ _) _) _, by simp [go_sem]⟩ ?_; rintro W ⟨bW, hW⟩; have cW : ∀ wx, Below W.heap.size W wx → wx.cell? ⟨w.heap.size, 0, none⟩ = some (.int .i64 y) ∧ wx.cell? ⟨w.heap.size, 1, none⟩ = some (.int .i64 m) ∧ wx.cell? ⟨w.heap.size, 2, none⟩ = some (.int .i64 d) ∧ wx.cell? ⟨w.heap.size + 1, 0, none⟩ = some (.int .i64 p) ∧ wx.cell? ⟨w.heap.size + 1, 1, none⟩ = some (.int .i64 q) ∧ wx.cell? ⟨w.heap.size + 1, 2, none⟩ = some (.int .i64 r) := (by obtain ⟨c1, c2, c3, c4, c5, c6⟩ := hW; exact fun wx b => ⟨cell_keep b c1, cell_keep b c2, cell_keep b c3, cell_keep b c4, cell_keep b c5, cell_keep b c6⟩); clear hW; have hB : Below W.heap.size W W.drew := (Below.refl _ _).drew; have hC := cW _ (Below.refl _ _)
    go_upto_region 4 with fail
    (first | (go_region_with ((go_at_call 23; refine (refRight_any _ _ _ _).mono ?_; rintro e wn ⟨rfl, bn⟩; (first | rw [HA.out] | rw [HB.out]); replace hB := below_then hB bn; replace hC := cW _ hB; clear bn))) | fail)
    all_goals
      go_wp2
      go_ret2
      exact ⟨rfl, below_then bW hB⟩
  · rw [if_neg h2]
    (go_enter Try.func12, Try.ntmps12); (go_upto_region 1 with fail); refine wp_letter (fun wx => Below w.heap.size w wx ∧ wx.cell? ⟨w.heap.size, 0, none⟩ = some (.int .i64 y) ∧ wx.cell? ⟨w.heap.size, 1, none⟩ = some (.int .i64 m) ∧ wx.cell? ⟨w.heap.size, 2, none⟩ = some (.int .i64 d) ∧ wx.cell? ⟨w.heap.size + 1, 0, none⟩ = some (.int .i64 p) ∧ wx.cell? ⟨w.heap.size + 1, 1, none⟩ = some (.int .i64 q) ∧ wx.cell? ⟨w.heap.size + 1, 2, none⟩ = some (.int .i64 r)) ⟨below_alloc (below_alloc (Below.refl _ _) _) _, by simp [go_sem]⟩ ?_; rintro W ⟨bW, hW⟩; have cW : ∀ wx, Below W.heap.size W wx → wx.cell? ⟨w.heap.size, 0, none⟩ = some (.int .i64 y) ∧ wx.cell? ⟨w.heap.size, 1, none⟩ = some (.int .i64 m) ∧ wx.cell? ⟨w.heap.size, 2, none⟩ = some (.int .i64 d) ∧ wx.cell? ⟨w.heap.size + 1, 0, none⟩ = some (.int .i64 p) ∧ wx.cell? ⟨w.heap.size + 1, 1, none⟩ = some (.int .i64 q) ∧ wx.cell? ⟨w.heap.size + 1, 2, none⟩ = some (.int .i64 r) := (by obtain ⟨c1, c2, c3, c4, c5, c6⟩ := hW; exact fun wx b => ⟨cell_keep b c1, cell_keep b c2, cell_keep b c3, cell_keep b c4, cell_keep b c5, cell_keep b c6⟩); clear hW; have hB : Below W.heap.size W W.drew := (Below.refl _ _).drew; have hC := cW _ (Below.refl _ _)
    go_upto_region 4 with fail
    (first | (go_region_with ((go_at_call 23; refine (refRight_any _ _ _ _).mono ?_; rintro e wn ⟨rfl, bn⟩; (first | rw [HA.out] | rw [HB.out]); replace hB := below_then hB bn; replace hC := cW _ hB; clear bn))) | fail)
    all_goals
      go_wp2
      go_ret2
      exact ⟨rfl, below_then bW hB⟩
end Go.Proofs.Ytcnnjegoejphjaa
