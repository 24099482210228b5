/-
  The document's own answer to chapter 3: the walk of Days by a basis.
-/
import Derived.Test.YtcnnjegoejphjaaRefCivil2
import Derived.Test.YtcnnjegoejphjaaRefMulDiv
import Derived.Test.YtcnnjegoejphjaaAcc
namespace Go.Proofs.Ytcnnjegoejphjaa
open Go.RowKit

set_option maxHeartbeats 4000000 in
set_option maxRecDepth 100000 in
theorem refDays_back (k y m d p q r A B : Int) (w : World) (ha : Cal.rightB y m d = true) (hb : Cal.rightB p q r = true) (hk : k = 0 ∨ k = 1 ∨ k = 2) (NA : Hid (Cal.num y m d = A)) (NB : Hid (Cal.num p q r = B)) (hn : B < A) :
    Calls Try.prog 12 #[.int .i64 k, .agg #[.int .i64 y, .int .i64 m, .int .i64 d], .agg #[.int .i64 p, .int .i64 q, .int .i64 r]] w fun e w' => e = .returned (.tuple #[.int .i64 0, .int .i64 (if k = 2 then 365 else 360)]) ∧ Below w.heap.size w w' := by
  have HA : Hid (Cal.rightB y m d = true) := ha
  have HB : Hid (Cal.rightB p q r = true) := hb
  clear ha hb
  have hlt : decide (B < A) = true := decide_eq_true hn
  clear hn
  rcases hk with rfl | rfl | rfl
  all_goals
    (go_enter Try.func12, Try.ntmps12); (go_upto_region 1 with fail); refine wp_letter (fun wx => Below w.heap.size w wx ∧ wx.cell? ⟨w.heap.size, 0, none⟩ = some (.int .i64 y) ∧ wx.cell? ⟨w.heap.size, 1, none⟩ = some (.int .i64 m) ∧ wx.cell? ⟨w.heap.size, 2, none⟩ = some (.int .i64 d) ∧ wx.cell? ⟨w.heap.size + 1, 0, none⟩ = some (.int .i64 p) ∧ wx.cell? ⟨w.heap.size + 1, 1, none⟩ = some (.int .i64 q) ∧ wx.cell? ⟨w.heap.size + 1, 2, none⟩ = some (.int .i64 r)) ⟨below_alloc (below_alloc (Below.refl _ _) _) _, by simp [go_sem]⟩ ?_; rintro W ⟨bW, hW⟩; have cW : ∀ wx, Below W.heap.size W wx → wx.cell? ⟨w.heap.size, 0, none⟩ = some (.int .i64 y) ∧ wx.cell? ⟨w.heap.size, 1, none⟩ = some (.int .i64 m) ∧ wx.cell? ⟨w.heap.size, 2, none⟩ = some (.int .i64 d) ∧ wx.cell? ⟨w.heap.size + 1, 0, none⟩ = some (.int .i64 p) ∧ wx.cell? ⟨w.heap.size + 1, 1, none⟩ = some (.int .i64 q) ∧ wx.cell? ⟨w.heap.size + 1, 2, none⟩ = some (.int .i64 r) := (by obtain ⟨c1, c2, c3, c4, c5, c6⟩ := hW; exact fun wx b => ⟨cell_keep b c1, cell_keep b c2, cell_keep b c3, cell_keep b c4, cell_keep b c5, cell_keep b c6⟩); clear hW; have hB : Below W.heap.size W W.drew := (Below.refl _ _).drew; have hC := cW _ (Below.refl _ _)
    go_upto_region 4 with fail
    go_region_held3 (fun wx => Below W.heap.size W wx ∧ wx.cell? ⟨w.heap.size, 0, none⟩ = some (.int .i64 y) ∧ wx.cell? ⟨w.heap.size, 1, none⟩ = some (.int .i64 m) ∧ wx.cell? ⟨w.heap.size, 2, none⟩ = some (.int .i64 d) ∧ wx.cell? ⟨w.heap.size + 1, 0, none⟩ = some (.int .i64 p) ∧ wx.cell? ⟨w.heap.size + 1, 1, none⟩ = some (.int .i64 q) ∧ wx.cell? ⟨w.heap.size + 1, 2, none⟩ = some (.int .i64 r)) (((try go_split_ands); refine held (cW _) ?_; repeat (first | with_reducible assumption | with_reducible exact below_thn (by assumption) (by assumption) | with_reducible refine Below.drew ?_ | with_reducible exact Below.refl _ _))) (first | ((go_at_call 23; refine (refRight_any _ _ _ _).mono ?_; rintro e wn ⟨rfl, bn⟩; (first | rw [HA.out] | rw [HB.out]))) | ((go_at_call 24; refine (refNumber_any _ _ _ _).mono ?_; rintro e wn ⟨rfl, bn⟩; (first | rw [NA.out] | rw [NB.out]))))
    rename_i hH
    have hE := hH.1
    clear hH
    go_wp2
    go_ret2
    exact ⟨rfl, below_then bW hE⟩

set_option maxHeartbeats 4000000 in
set_option maxRecDepth 100000 in
theorem refDays_act (k y m d p q r A B : Int) (w : World) (ha : Cal.rightB y m d = true) (hb : Cal.rightB p q r = true) (hk : k = 1 ∨ k = 2) (NA : Hid (Cal.num y m d = A)) (NB : Hid (Cal.num p q r = B)) (hn : A ≤ B) (a0 : 0 ≤ A) (b1 : B ≤ 3652058) :
    Calls Try.prog 12 #[.int .i64 k, .agg #[.int .i64 y, .int .i64 m, .int .i64 d], .agg #[.int .i64 p, .int .i64 q, .int .i64 r]] w fun e w' => e = .returned (.tuple #[.int .i64 (B - A), .int .i64 (if k = 2 then 365 else 360)]) ∧ Below w.heap.size w w' := by
  have HA : Hid (Cal.rightB y m d = true) := ha
  have HB : Hid (Cal.rightB p q r = true) := hb
  clear ha hb
  have hlt : decide (B < A) = false := decide_eq_false (by omega)
  have hw : IntKind.i64.wrap (B - A) = B - A := wrap_in _ (by omega) (by omega)
  rcases hk with rfl | rfl
  all_goals
    (go_enter Try.func12, Try.ntmps12); (go_upto_region 1 with fail); refine wp_letter (fun wx => Below w.heap.size w wx ∧ wx.cell? ⟨w.heap.size, 0, none⟩ = some (.int .i64 y) ∧ wx.cell? ⟨w.heap.size, 1, none⟩ = some (.int .i64 m) ∧ wx.cell? ⟨w.heap.size, 2, none⟩ = some (.int .i64 d) ∧ wx.cell? ⟨w.heap.size + 1, 0, none⟩ = some (.int .i64 p) ∧ wx.cell? ⟨w.heap.size + 1, 1, none⟩ = some (.int .i64 q) ∧ wx.cell? ⟨w.heap.size + 1, 2, none⟩ = some (.int .i64 r)) ⟨below_alloc (below_alloc (Below.refl _ _) _) _, by simp [go_sem]⟩ ?_; rintro W ⟨bW, hW⟩; have cW : ∀ wx, Below W.heap.size W wx → wx.cell? ⟨w.heap.size, 0, none⟩ = some (.int .i64 y) ∧ wx.cell? ⟨w.heap.size, 1, none⟩ = some (.int .i64 m) ∧ wx.cell? ⟨w.heap.size, 2, none⟩ = some (.int .i64 d) ∧ wx.cell? ⟨w.heap.size + 1, 0, none⟩ = some (.int .i64 p) ∧ wx.cell? ⟨w.heap.size + 1, 1, none⟩ = some (.int .i64 q) ∧ wx.cell? ⟨w.heap.size + 1, 2, none⟩ = some (.int .i64 r) := (by obtain ⟨c1, c2, c3, c4, c5, c6⟩ := hW; exact fun wx b => ⟨cell_keep b c1, cell_keep b c2, cell_keep b c3, cell_keep b c4, cell_keep b c5, cell_keep b c6⟩); clear hW; have hB : Below W.heap.size W W.drew := (Below.refl _ _).drew; have hC := cW _ (Below.refl _ _)
    go_upto_region 4 with fail
    go_region_held3 (fun wx => Below W.heap.size W wx ∧ wx.cell? ⟨w.heap.size, 0, none⟩ = some (.int .i64 y) ∧ wx.cell? ⟨w.heap.size, 1, none⟩ = some (.int .i64 m) ∧ wx.cell? ⟨w.heap.size, 2, none⟩ = some (.int .i64 d) ∧ wx.cell? ⟨w.heap.size + 1, 0, none⟩ = some (.int .i64 p) ∧ wx.cell? ⟨w.heap.size + 1, 1, none⟩ = some (.int .i64 q) ∧ wx.cell? ⟨w.heap.size + 1, 2, none⟩ = some (.int .i64 r)) (((try go_split_ands); refine held (cW _) ?_; repeat (first | with_reducible assumption | with_reducible exact below_thn (by assumption) (by assumption) | with_reducible refine Below.drew ?_ | with_reducible exact Below.refl _ _))) (first | ((go_at_call 23; refine (refRight_any _ _ _ _).mono ?_; rintro e wn ⟨rfl, bn⟩; (first | rw [HA.out] | rw [HB.out]))) | ((go_at_call 24; refine (refNumber_any _ _ _ _).mono ?_; rintro e wn ⟨rfl, bn⟩; (first | rw [NA.out] | rw [NB.out]))))
    rename_i hH
    replace hB := hH.1
    replace hC := hH.2
    clear hH
    go_upto_region 7 with fail
    go_region_held3 (fun wx => Below W.heap.size W wx ∧ wx.cell? ⟨w.heap.size, 0, none⟩ = some (.int .i64 y) ∧ wx.cell? ⟨w.heap.size, 1, none⟩ = some (.int .i64 m) ∧ wx.cell? ⟨w.heap.size, 2, none⟩ = some (.int .i64 d) ∧ wx.cell? ⟨w.heap.size + 1, 0, none⟩ = some (.int .i64 p) ∧ wx.cell? ⟨w.heap.size + 1, 1, none⟩ = some (.int .i64 q) ∧ wx.cell? ⟨w.heap.size + 1, 2, none⟩ = some (.int .i64 r)) (((try go_split_ands); refine held (cW _) ?_; repeat (first | with_reducible assumption | with_reducible exact below_thn (by assumption) (by assumption) | with_reducible refine Below.drew ?_ | with_reducible exact Below.refl _ _))) (first | ((go_at_call 24; refine (refNumber_any _ _ _ _).mono ?_; rintro e wn ⟨rfl, bn⟩; (first | rw [NA.out] | rw [NB.out]))))
    rename_i hH
    have hE := hH.1
    clear hH
    go_wp2
    go_ret2
    exact ⟨rfl, below_then bW hE⟩

set_option maxHeartbeats 4000000 in
set_option maxRecDepth 100000 in
theorem refDays_com (y m d p q r A B : Int) (w : World) (ha : Cal.rightB y m d = true) (hb : Cal.rightB p q r = true) (NA : Hid (Cal.num y m d = A)) (NB : Hid (Cal.num p q r = B)) (hn : A ≤ B) :
    Calls Try.prog 12 #[.int .i64 0, .agg #[.int .i64 y, .int .i64 m, .int .i64 d], .agg #[.int .i64 p, .int .i64 q, .int .i64 r]] w fun e w' => e = .returned (.tuple #[.int .i64 (Acc.com y m d p q r), .int .i64 360]) ∧ Below w.heap.size w w' := by
  have HA : Hid (Cal.rightB y m d = true) := ha
  have HB : Hid (Cal.rightB p q r = true) := hb
  obtain ⟨a1, a2, a3, a4, a5, a6⟩ := Cal.right_in ha
  obtain ⟨b1, b2, b3, b4, b5, b6⟩ := Cal.right_in hb
  have la := (Cal.last_lo y m).2
  have lb := (Cal.last_lo p q).2
  have a2' : d ≤ 31 := by omega
  have b2' : r ≤ 31 := by omega
  clear ha hb a2 b2 la lb
  have hlt : decide (B < A) = false := decide_eq_false (by omega)
  clear hn
  obtain ⟨C, hcom⟩ : ∃ C, Acc.com y m d p q r = C := ⟨_, rfl⟩
  rw [hcom]
  have HC : Hid (C = 360 * (p - y) + 30 * (q - m) + (if 30 ≤ d then min r 30 else r) - min d 30) := hcom.symm
  clear hcom
  (go_enter Try.func12, Try.ntmps12); (go_upto_region 1 with fail); refine wp_letter (fun wx => Below w.heap.size w wx ∧ wx.cell? ⟨w.heap.size, 0, none⟩ = some (.int .i64 y) ∧ wx.cell? ⟨w.heap.size, 1, none⟩ = some (.int .i64 m) ∧ wx.cell? ⟨w.heap.size, 2, none⟩ = some (.int .i64 d) ∧ wx.cell? ⟨w.heap.size + 1, 0, none⟩ = some (.int .i64 p) ∧ wx.cell? ⟨w.heap.size + 1, 1, none⟩ = some (.int .i64 q) ∧ wx.cell? ⟨w.heap.size + 1, 2, none⟩ = some (.int .i64 r)) ⟨below_alloc (below_alloc (Below.refl _ _) _) _, by simp [go_sem]⟩ ?_; rintro W ⟨bW, hW⟩; have cW : ∀ wx, Below W.heap.size W wx → wx.cell? ⟨w.heap.size, 0, none⟩ = some (.int .i64 y) ∧ wx.cell? ⟨w.heap.size, 1, none⟩ = some (.int .i64 m) ∧ wx.cell? ⟨w.heap.size, 2, none⟩ = some (.int .i64 d) ∧ wx.cell? ⟨w.heap.size + 1, 0, none⟩ = some (.int .i64 p) ∧ wx.cell? ⟨w.heap.size + 1, 1, none⟩ = some (.int .i64 q) ∧ wx.cell? ⟨w.heap.size + 1, 2, none⟩ = some (.int .i64 r) := (by obtain ⟨c1, c2, c3, c4, c5, c6⟩ := hW; exact fun wx b => ⟨cell_keep b c1, cell_keep b c2, cell_keep b c3, cell_keep b c4, cell_keep b c5, cell_keep b c6⟩); clear hW; have hB : Below W.heap.size W W.drew := (Below.refl _ _).drew; have hC := cW _ (Below.refl _ _)
  go_upto_region 4 with fail
  go_region_held3 (fun wx => Below W.heap.size W wx ∧ wx.cell? ⟨w.heap.size, 0, none⟩ = some (.int .i64 y) ∧ wx.cell? ⟨w.heap.size, 1, none⟩ = some (.int .i64 m) ∧ wx.cell? ⟨w.heap.size, 2, none⟩ = some (.int .i64 d) ∧ wx.cell? ⟨w.heap.size + 1, 0, none⟩ = some (.int .i64 p) ∧ wx.cell? ⟨w.heap.size + 1, 1, none⟩ = some (.int .i64 q) ∧ wx.cell? ⟨w.heap.size + 1, 2, none⟩ = some (.int .i64 r)) (((try go_split_ands); refine held (cW _) ?_; repeat (first | with_reducible assumption | with_reducible exact below_thn (by assumption) (by assumption) | with_reducible refine Below.drew ?_ | with_reducible exact Below.refl _ _))) (first | ((go_at_call 23; refine (refRight_any _ _ _ _).mono ?_; rintro e wn ⟨rfl, bn⟩; (first | rw [HA.out] | rw [HB.out]))) | ((go_at_call 24; refine (refNumber_any _ _ _ _).mono ?_; rintro e wn ⟨rfl, bn⟩; (first | rw [NA.out] | rw [NB.out]))))
  rename_i hH
  replace hB := hH.1
  replace hC := hH.2
  clear hH
  go_upto_region 8 with fail
  by_cases h1 : d < 30
  · have hb : (d == 30) = false := beq_eq_false_iff_ne.2 (by omega)
    go_region_held3 (fun wx => Below W.heap.size W wx ∧ wx.cell? ⟨w.heap.size, 0, none⟩ = some (.int .i64 y) ∧ wx.cell? ⟨w.heap.size, 1, none⟩ = some (.int .i64 m) ∧ wx.cell? ⟨w.heap.size, 2, none⟩ = some (.int .i64 d) ∧ wx.cell? ⟨w.heap.size + 1, 0, none⟩ = some (.int .i64 p) ∧ wx.cell? ⟨w.heap.size + 1, 1, none⟩ = some (.int .i64 q) ∧ wx.cell? ⟨w.heap.size + 1, 2, none⟩ = some (.int .i64 r)) (((try go_split_ands); refine held (cW _) ?_; repeat (first | with_reducible assumption | with_reducible exact below_thn (by assumption) (by assumption) | with_reducible refine Below.drew ?_ | with_reducible exact Below.refl _ _))) (first | fail)
    rename_i hH
    replace hB := hH.1
    replace hC := hH.2
    clear hH
    go_wp2
    go_ret2
    refine ⟨?_, below_then bW hB⟩
    rw [HC.out, if_neg (by omega), show min d 30 = d by omega]
    rfl
  · have h1' : 30 ≤ d := by omega
    clear h1
    by_cases h3 : d = 30
    · have hb : (d == 30) = true := beq_iff_eq.2 h3
      have h1'' : d ≤ 30 := by omega
      clear h3
      by_cases h2 : r ≤ 30
      all_goals
        go_region_held3 (fun wx => Below W.heap.size W wx ∧ wx.cell? ⟨w.heap.size, 0, none⟩ = some (.int .i64 y) ∧ wx.cell? ⟨w.heap.size, 1, none⟩ = some (.int .i64 m) ∧ wx.cell? ⟨w.heap.size, 2, none⟩ = some (.int .i64 d) ∧ wx.cell? ⟨w.heap.size + 1, 0, none⟩ = some (.int .i64 p) ∧ wx.cell? ⟨w.heap.size + 1, 1, none⟩ = some (.int .i64 q) ∧ wx.cell? ⟨w.heap.size + 1, 2, none⟩ = some (.int .i64 r)) (((try go_split_ands); refine held (cW _) ?_; repeat (first | with_reducible assumption | with_reducible exact below_thn (by assumption) (by assumption) | with_reducible refine Below.drew ?_ | with_reducible exact Below.refl _ _))) (first | fail)
        rename_i hH
        replace hB := hH.1
        replace hC := hH.2
        clear hH
        go_wp2
        go_ret2
        refine ⟨?_, below_then bW hB⟩
        rw [HC.out, if_pos (by omega), show min d 30 = d by omega]
        first | rw [show min r 30 = r by omega] | rw [show min r 30 = 30 by omega]
        rfl
    · have h4 : 30 < d := by omega
      by_cases h2 : r ≤ 30
      all_goals
        go_region_held3 (fun wx => Below W.heap.size W wx ∧ wx.cell? ⟨w.heap.size, 0, none⟩ = some (.int .i64 y) ∧ wx.cell? ⟨w.heap.size, 1, none⟩ = some (.int .i64 m) ∧ wx.cell? ⟨w.heap.size, 2, none⟩ = some (.int .i64 d) ∧ wx.cell? ⟨w.heap.size + 1, 0, none⟩ = some (.int .i64 p) ∧ wx.cell? ⟨w.heap.size + 1, 1, none⟩ = some (.int .i64 q) ∧ wx.cell? ⟨w.heap.size + 1, 2, none⟩ = some (.int .i64 r)) (((try go_split_ands); refine held (cW _) ?_; repeat (first | with_reducible assumption | with_reducible exact below_thn (by assumption) (by assumption) | with_reducible refine Below.drew ?_ | with_reducible exact Below.refl _ _))) (first | fail)
        rename_i hH
        replace hB := hH.1
        replace hC := hH.2
        clear hH
        go_wp2
        go_ret2
        refine ⟨?_, below_then bW hB⟩
        rw [HC.out, if_pos (by omega), show min d 30 = 30 by omega]
        first | rw [show min r 30 = r by omega] | rw [show min r 30 = 30 by omega]
        first | rfl | (rw [show 360 * (p - y) + 30 * (q - m) + 30 - 30 = 360 * (p - y) + 30 * (q - m) by omega]; rfl)
end Go.Proofs.Ytcnnjegoejphjaa
