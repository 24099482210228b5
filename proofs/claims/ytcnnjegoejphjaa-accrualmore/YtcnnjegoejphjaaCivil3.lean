/-
  Package civil: the walks of Shift, Before.
-/
import Derived.Test.YtcnnjegoejphjaaCivil2
namespace Go.Proofs.Ytcnnjegoejphjaa
open Go.RowKit

theorem Cal.sh_no {y m d k : Int} (h : Cal.shB y m d k = false) : Cal.shY y m d k = 0 ∧ Cal.shM y m d k = 0 ∧ Cal.shD y m d k = 0 := by
  simp [Cal.shY, Cal.shM, Cal.shD, h]
theorem Cal.sh_yes {y m d k : Int} (h : Cal.shB y m d k = true) : Cal.shY y m d k = (12 * y + m - 1 + k) / 12 ∧ Cal.shM y m d k = (12 * y + m - 1 + k) % 12 + 1 ∧ Cal.shD y m d k = min d (Cal.last ((12 * y + m - 1 + k) / 12) ((12 * y + m - 1 + k) % 12 + 1)) := by
  simp [Cal.shY, Cal.shM, Cal.shD, h]

set_option maxHeartbeats 1000000 in
theorem shift_any (y m d k : Int) (w : World) :
    Calls Try.prog 16 #[.agg #[.int .i64 y, .int .i64 m, .int .i64 d], .int .i64 k] w fun e w' => e = .returned (.agg #[.int .i64 (Cal.shY y m d k), .int .i64 (Cal.shM y m d k), .int .i64 (Cal.shD y m d k)]) ∧ Below w.heap.size w w' := by
  have hbel : Below w.heap.size w ((w.alloc (.cells #[.int .i64 y, .int .i64 m, .int .i64 d] 23)).alloc (.cells #[.int .i64 0, .int .i64 0, .int .i64 0] 23)) := ((Below.refl _ _).alloc (Nat.le_refl _) _).alloc (by simp) _
  cases hr : Cal.rightB y m d
  · obtain ⟨e1, e2, e3⟩ := Cal.sh_no (y := y) (m := m) (d := d) (k := k) (by simp [Cal.shB, hr])
    rw [e1, e2, e3]
    go_enter Try.func16, Try.ntmps16
    go_wp2_with (go_at_call 18; refine (right_date _ _ _ _).mono ?_; rintro e w1 ⟨rfl, b1⟩; rw [hr]; obtain ⟨hc, hf⟩ := bcell b1; have hz : w.heap.size + 1 < w1.heap.size := by (have := b1.size; simp at this; omega))
    exact bodyPost_ret (v := .agg #[.int .i64 0, .int .i64 0, .int .i64 0]) (by simp [results, Try.results16, go_sem, hc]) rfl ⟨rfl, (((below_then hbel b1).setCell (by simp) _).setCell (by simp) _).setCell (by simp) _⟩
  · obtain ⟨d1, d2, y1, y2, m1, m2⟩ := Cal.right_in hr
    have d3 := (Cal.last_lo y m).2
    cases hs : Cal.shB y m d k
    · obtain ⟨e1, e2, e3⟩ := Cal.sh_no hs
      rw [e1, e2, e3]
      simp [Cal.shB, hr] at hs
      by_cases hk : k < -((y - 1) * 12 + m - 1)
      · clear hs e1 e2 e3
        go_enter Try.func16, Try.ntmps16
        go_wp2_with (go_at_call 18; refine (right_date _ _ _ _).mono ?_; rintro e w1 ⟨rfl, b1⟩; rw [hr]; obtain ⟨hc, hf⟩ := bcell b1; have hz : w.heap.size + 1 < w1.heap.size := by (have := b1.size; simp at this; omega))
        exact bodyPost_ret (v := .agg #[.int .i64 0, .int .i64 0, .int .i64 0]) (by simp [results, Try.results16, go_sem, hc]) rfl ⟨rfl, (((below_then hbel b1).setCell (by simp) _).setCell (by simp) _).setCell (by simp) _⟩
      · have hk2 : 119988 - ((y - 1) * 12 + m - 1) ≤ k := by omega
        clear hs e1 e2 e3
        go_enter Try.func16, Try.ntmps16
        go_wp2_with (go_at_call 18; refine (right_date _ _ _ _).mono ?_; rintro e w1 ⟨rfl, b1⟩; rw [hr]; obtain ⟨hc, hf⟩ := bcell b1; have hz : w.heap.size + 1 < w1.heap.size := by (have := b1.size; simp at this; omega))
        exact bodyPost_ret (v := .agg #[.int .i64 0, .int .i64 0, .int .i64 0]) (by simp [results, Try.results16, go_sem, hc]) rfl ⟨rfl, (((below_then hbel b1).setCell (by simp) _).setCell (by simp) _).setCell (by simp) _⟩
    · obtain ⟨e1, e2, e3⟩ := Cal.sh_yes hs
      have q1 : (12 * y + m - 1 + k) / 12 = ((y - 1) * 12 + m - 1 + k) / 12 + 1 := by omega
      have q2 : (12 * y + m - 1 + k) % 12 = ((y - 1) * 12 + m - 1 + k) % 12 := by omega
      rw [q1, q2] at e3
      rw [q1] at e1
      rw [q2] at e2
      rw [e1, e2, e3]
      simp [Cal.shB, hr] at hs
      obtain ⟨s1, s2⟩ := hs
      have k1 : -((y - 1) * 12 + m - 1) ≤ k := by omega
      have k2 : k < 119988 - ((y - 1) * 12 + m - 1) := by omega
      clear e1 e2 e3 q1 q2 s1 s2
      have HL : Hid (∃ L, Cal.last (((y - 1) * 12 + m - 1 + k) / 12 + 1) (((y - 1) * 12 + m - 1 + k) % 12 + 1) = L) := ⟨_, rfl⟩
      obtain ⟨L, hL⟩ := HL.out
      rw [hL]
      by_cases hd : L < d
      · rw [show min d L = L by omega]
        go_enter Try.func16, Try.ntmps16
        go_upto_region 8 with (go_at_call 18; refine (right_date _ _ _ _).mono ?_; rintro e w1 ⟨rfl, b1⟩; rw [hr]; obtain ⟨hc, hf⟩ := bcell b1; have hz : w.heap.size + 1 < w1.heap.size := by (have := b1.size; simp at this; omega))
        have c2 : w1.cell? ⟨w.heap.size, 2, none⟩ = some (.int .i64 d) := by rw [hc _ _ (by simp; omega)]; simp
        go_region_held3 (fun w' => w'.cell? ⟨w.heap.size, 2, none⟩ = some (.int .i64 d)) (go_keep) (first | ((go_at_call 27; refine (last_any _ _ _).mono ?_; rintro e w' ⟨rfl, rfl⟩; rw [hL])))
        go_wp2
        exact bodyPost_ret (v := .agg #[.int .i64 (((y - 1) * 12 + m - 1 + k) / 12 + 1), .int .i64 (((y - 1) * 12 + m - 1 + k) % 12 + 1), .int .i64 L]) (by simp [results, Try.results16, go_sem, hc]) rfl ⟨rfl, ((((below_then hbel b1).setCell (by simp) _).setCell (by simp) _).setCell (by simp) _).drew⟩
      · rw [show min d L = d by omega]
        go_enter Try.func16, Try.ntmps16
        go_upto_region 8 with (go_at_call 18; refine (right_date _ _ _ _).mono ?_; rintro e w1 ⟨rfl, b1⟩; rw [hr]; obtain ⟨hc, hf⟩ := bcell b1; have hz : w.heap.size + 1 < w1.heap.size := by (have := b1.size; simp at this; omega))
        have c2 : w1.cell? ⟨w.heap.size, 2, none⟩ = some (.int .i64 d) := by rw [hc _ _ (by simp; omega)]; simp
        go_region_held3 (fun w' => w'.cell? ⟨w.heap.size, 2, none⟩ = some (.int .i64 d)) (go_keep) (first | ((go_at_call 27; refine (last_any _ _ _).mono ?_; rintro e w' ⟨rfl, rfl⟩; rw [hL])))
        go_wp2
        exact bodyPost_ret (v := .agg #[.int .i64 (((y - 1) * 12 + m - 1 + k) / 12 + 1), .int .i64 (((y - 1) * 12 + m - 1 + k) % 12 + 1), .int .i64 d]) (by simp [results, Try.results16, go_sem, hc]) rfl ⟨rfl, ((((below_then hbel b1).setCell (by simp) _).setCell (by simp) _).setCell (by simp) _).drew⟩

set_option maxHeartbeats 1000000 in
theorem before_any (y m d y' m' d' : Int) (w : World) :
    Calls Try.prog 19 #[.agg #[.int .i64 y, .int .i64 m, .int .i64 d], .agg #[.int .i64 y', .int .i64 m', .int .i64 d']] w fun e w' => e = .returned (.bool (decide (Cal.num y m d < Cal.num y' m' d'))) ∧ Below w.heap.size w w' := by
  go_enter Try.func19, Try.ntmps19
  go_upto_region 1 with fail
  have bW : Below w.heap.size w ((w.alloc (.cells #[.int .i64 y, .int .i64 m, .int .i64 d] 23)).alloc (.cells #[.int .i64 y', .int .i64 m', .int .i64 d'] 23)) := ((Below.refl _ _).alloc (Nat.le_refl _) _).alloc (by simp) _
  have cW : ∀ wx, Below ((w.alloc (.cells #[.int .i64 y, .int .i64 m, .int .i64 d] 23)).alloc (.cells #[.int .i64 y', .int .i64 m', .int .i64 d'] 23)).heap.size ((w.alloc (.cells #[.int .i64 y, .int .i64 m, .int .i64 d] 23)).alloc (.cells #[.int .i64 y', .int .i64 m', .int .i64 d'] 23)) wx →
      wx.cell? ⟨w.heap.size, 0, none⟩ = some (.int .i64 y) ∧ wx.cell? ⟨w.heap.size, 1, none⟩ = some (.int .i64 m) ∧ wx.cell? ⟨w.heap.size, 2, none⟩ = some (.int .i64 d) ∧ wx.cell? ⟨w.heap.size + 1, 0, none⟩ = some (.int .i64 y') ∧ wx.cell? ⟨w.heap.size + 1, 1, none⟩ = some (.int .i64 m') ∧ wx.cell? ⟨w.heap.size + 1, 2, none⟩ = some (.int .i64 d') := by
    intro wx b
    refine ⟨?_, ?_, ?_, ?_, ?_, ?_⟩ <;> exact cell_keep b (by simp)
  generalize (w.alloc (.cells #[.int .i64 y, .int .i64 m, .int .i64 d] 23)).alloc (.cells #[.int .i64 y', .int .i64 m', .int .i64 d'] 23) = W at *
  go_region_held3 (fun wx => Below W.heap.size W wx ∧ wx.cell? ⟨w.heap.size, 0, none⟩ = some (.int .i64 y) ∧ wx.cell? ⟨w.heap.size, 1, none⟩ = some (.int .i64 m) ∧ wx.cell? ⟨w.heap.size, 2, none⟩ = some (.int .i64 d) ∧ wx.cell? ⟨w.heap.size + 1, 0, none⟩ = some (.int .i64 y') ∧ wx.cell? ⟨w.heap.size + 1, 1, none⟩ = some (.int .i64 m') ∧ wx.cell? ⟨w.heap.size + 1, 2, none⟩ = some (.int .i64 d'))
    (first
      | exact ⟨(Below.refl _ _).drew, cW _ (Below.refl _ _).drew⟩
      | (go_split_ands; have hk := below_then (by assumption : Below W.heap.size W _) (by assumption); exact ⟨hk, cW _ hk⟩))
    (first | ((go_at_call 15; refine (number_any _ _ _ _).mono ?_; rintro e wn ⟨rfl, bn⟩)))
  rename_i hH
  have hE := hH.1
  clear hH
  go_wp2
  go_ret
  exact ⟨rfl, below_then bW hE⟩

/-- Of at a right date's number is that date. -/
theorem of_num (y m d n : Int) (w : World) (h : Cal.rightB y m d = true) (hn : Cal.num y m d = n) :
    Calls Try.prog 14 #[.int .i64 n] w fun e w' => e = .returned (.agg #[.int .i64 y, .int .i64 m, .int .i64 d]) ∧ Below w.heap.size w w' := by
  have hb := Cal.num_bd h
  refine (of_yes n w (by omega) (by omega)).mono ?_
  rintro e w' ⟨⟨y', m', d', rfl, h', e'⟩, b⟩
  obtain ⟨rfl, rfl, rfl⟩ := Cal.num_inj h h' (by omega)
  exact ⟨rfl, b⟩

end Go.Proofs.Ytcnnjegoejphjaa
