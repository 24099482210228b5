/-
  Package accrual: the walks of its functions.
-/
import Derived.Test.YtcnnjegoejphjaaCivil3
import Derived.Test.YtcnnjegoejphjaaAcc
namespace Go.Proofs.Ytcnnjegoejphjaa
open Go.RowKit

set_option maxHeartbeats 1000000 in
theorem yearOf_any (k : Int) (w : World) :
    Calls Try.prog 17 #[.int .i64 k] w fun e w' => e = .returned (.int .i64 (Acc.per k)) ∧ w' = w := by
  by_cases h : k = 2
  · subst h
    go_enter Try.func17, Try.ntmps17
    go_wp2
    go_ret
    exact ⟨rfl, rfl⟩
  · rw [Acc.per_else h]
    have hb : (k == 2) = false := beq_eq_false_iff_ne.2 h
    clear h
    go_enter Try.func17, Try.ntmps17
    go_wp2
    go_ret
    exact ⟨rfl, rfl⟩

set_option maxHeartbeats 1000000 in
theorem commercialDays_any (y m d p q r : Int) (w : World) (y0 : 1 ≤ y) (y1 : y ≤ 9999) (m0 : 1 ≤ m) (m1 : m ≤ 12) (d0 : 1 ≤ d) (d1 : d ≤ 31) (p0 : 1 ≤ p) (p1 : p ≤ 9999) (q0 : 1 ≤ q) (q1 : q ≤ 12) (r0 : 1 ≤ r) (r1 : r ≤ 31) :
    Calls Try.prog 20 #[.agg #[.int .i64 y, .int .i64 m, .int .i64 d], .agg #[.int .i64 p, .int .i64 q, .int .i64 r]] w fun e w' => e = .returned (.int .i64 (Acc.com y m d p q r)) ∧ Below w.heap.size w w' := by
  by_cases h1 : d < 30
  · have hb : (d == 30) = false := beq_eq_false_iff_ne.2 (by omega)
    go_enter Try.func20, Try.ntmps20
    go_wp2
    go_ret
    refine ⟨ret_int ?_, ?_⟩
    · unfold Acc.com; rw [if_neg (by omega)]; omega
    · repeat (first | with_reducible exact Below.refl _ _ | with_reducible refine below_alloc ?_ _ | with_reducible refine Below.setCell ?_ (by simp) _)
  · by_cases h2 : r ≤ 30
    · by_cases h3 : d = 30
      · subst h3
        go_enter Try.func20, Try.ntmps20
        go_wp2
        go_ret
        refine ⟨ret_int ?_, ?_⟩
        · unfold Acc.com; rw [if_pos (by omega)]; omega
        · repeat (first | with_reducible exact Below.refl _ _ | with_reducible refine below_alloc ?_ _ | with_reducible refine Below.setCell ?_ (by simp) _)
      · have h4 : 30 < d := by omega
        go_enter Try.func20, Try.ntmps20
        go_wp2
        go_ret
        refine ⟨ret_int ?_, ?_⟩
        · unfold Acc.com; rw [if_pos (by omega)]; omega
        · repeat (first | with_reducible exact Below.refl _ _ | with_reducible refine below_alloc ?_ _ | with_reducible refine Below.setCell ?_ (by simp) _)
    · have h2' : 30 < r := by omega
      by_cases h3 : d = 30
      · subst h3
        go_enter Try.func20, Try.ntmps20
        go_wp2
        go_ret
        refine ⟨ret_int ?_, ?_⟩
        · unfold Acc.com; rw [if_pos (by omega)]; omega
        · repeat (first | with_reducible exact Below.refl _ _ | with_reducible refine below_alloc ?_ _ | with_reducible refine Below.setCell ?_ (by simp) _)
      · have h4 : 30 < d := by omega
        go_enter Try.func20, Try.ntmps20
        go_wp2
        go_ret
        refine ⟨ret_int ?_, ?_⟩
        · unfold Acc.com; rw [if_pos (by omega)]; omega
        · repeat (first | with_reducible exact Below.refl _ _ | with_reducible refine below_alloc ?_ _ | with_reducible refine Below.setCell ?_ (by simp) _)

set_option maxHeartbeats 2000000 in
theorem days_any (k y m d p q r : Int) (w : World) :
    Calls Try.prog 8 #[.int .i64 k, .agg #[.int .i64 y, .int .i64 m, .int .i64 d], .agg #[.int .i64 p, .int .i64 q, .int .i64 r]] w fun e w' => e = .returned (.tuple #[.int .i64 (Acc.days k y m d p q r), .int .i64 (Acc.per k)]) ∧ Below w.heap.size w w' := by
  obtain ⟨P, hP⟩ : ∃ P, Acc.per k = P := ⟨_, rfl⟩
  obtain ⟨D, hD⟩ : ∃ D, Acc.days k y m d p q r = D := ⟨_, rfl⟩
  rw [hP, hD]
  have HP : Hid (Acc.per k = P) := hP
  have HE : Hid (Acc.days k y m d p q r = D) := hD
  clear hP hD
  go_enter Try.func8, Try.ntmps8
  go_upto_region 1 with fail
  refine wp_letter (fun wx => Below w.heap.size w wx ∧ wx.cell? ⟨w.heap.size, 0, none⟩ = some (.int .i64 y) ∧ wx.cell? ⟨w.heap.size, 1, none⟩ = some (.int .i64 m) ∧ wx.cell? ⟨w.heap.size, 2, none⟩ = some (.int .i64 d) ∧ wx.cell? ⟨w.heap.size + 1, 0, none⟩ = some (.int .i64 p) ∧ wx.cell? ⟨w.heap.size + 1, 1, none⟩ = some (.int .i64 q) ∧ wx.cell? ⟨w.heap.size + 1, 2, none⟩ = some (.int .i64 r)) ?_ ?_
  · refine ⟨below_alloc (below_alloc (Below.refl _ _) _) _, ?_⟩
    simp [go_sem]
  rintro W ⟨bW, hW⟩
  have cW : ∀ wx, Below W.heap.size W wx → wx.cell? ⟨w.heap.size, 0, none⟩ = some (.int .i64 y) ∧ wx.cell? ⟨w.heap.size, 1, none⟩ = some (.int .i64 m) ∧ wx.cell? ⟨w.heap.size, 2, none⟩ = some (.int .i64 d) ∧ wx.cell? ⟨w.heap.size + 1, 0, none⟩ = some (.int .i64 p) ∧ wx.cell? ⟨w.heap.size + 1, 1, none⟩ = some (.int .i64 q) ∧ wx.cell? ⟨w.heap.size + 1, 2, none⟩ = some (.int .i64 r) := by
    obtain ⟨c1, c2, c3, c4, c5, c6⟩ := hW
    exact fun wx b => ⟨cell_keep b c1, cell_keep b c2, cell_keep b c3, cell_keep b c4, cell_keep b c5, cell_keep b c6⟩
  clear hW
  have hB : Below W.heap.size W W := Below.refl _ _
  have hC := cW _ hB
  by_cases hok : Acc.okB y m d p q r = true
  · obtain ⟨ha, hb, hn⟩ := Acc.okB_out hok
    have HA : Hid (Cal.rightB y m d = true) := ha
    have HB : Hid (Cal.rightB p q r = true) := hb
    have HF : Hid (decide (Cal.num p q r < Cal.num y m d) = false) := decide_eq_false (by omega)
    by_cases h0 : k = 0
    · subst h0
      have E : Hid (D = Acc.com y m d p q r) := by rw [Hid, ← HE.out, Acc.days_com hok]
      obtain ⟨a1, a2, a3, a4, a5, a6⟩ := Cal.right_in ha
      obtain ⟨b1, b2, b3, b4, b5, b6⟩ := Cal.right_in hb
      have la := (Cal.last_lo y m).2
      have lb := (Cal.last_lo p q).2
      have HD : Hid (d ≤ 31 ∧ r ≤ 31) := ⟨by omega, by omega⟩
      clear a2 b2 la lb ha hb hn hok
      go_wp2_with (first | (go_at_call 17; refine (yearOf_any _ _).mono ?_; rintro e wq ⟨rfl, hq⟩; have hq := hq.symm; subst hq; rw [HP.out]) | (go_at_call 18; refine (right_date _ _ _ _).mono ?_; rintro e wn ⟨rfl, bn⟩; (first | rw [HA.out] | rw [HB.out]); replace hB := below_then hB bn; replace hC := cW _ hB; clear bn) | (go_at_call 19; refine (before_any _ _ _ _ _ _ _).mono ?_; rintro e wn ⟨rfl, bn⟩; rw [HF.out]; replace hB := below_then hB bn; replace hC := cW _ hB; clear bn) | (go_at_call 20; refine (commercialDays_any _ _ _ _ _ _ _ a3 a4 a5 a6 a1 HD.out.1 b3 b4 b5 b6 b1 HD.out.2).mono ?_; rintro e wn ⟨rfl, bn⟩; replace hB := below_then hB bn; replace hC := cW _ hB; clear bn))
      go_ret2
      exact ⟨by rw [E.out]; rfl, below_then bW hB⟩
    · have k0 : (k == 0) = false := beq_eq_false_iff_ne.2 h0
      have na := Cal.num_bd ha
      have nb := Cal.num_bd hb
      by_cases h1 : k = 1
      · subst h1
        have E : Hid (D = Cal.num p q r - Cal.num y m d) := by rw [Hid, ← HE.out, Acc.days_act hok (by omega)]
        clear ha hb hok
        obtain ⟨A, hA⟩ : ∃ A, Cal.num y m d = A := ⟨_, rfl⟩
        obtain ⟨B, hBn⟩ : ∃ A, Cal.num p q r = A := ⟨_, rfl⟩
        rw [hA] at na hn
        rw [hBn] at nb hn
        have NA : Hid (Cal.num y m d = A) := hA
        have NB : Hid (Cal.num p q r = B) := hBn
        rw [Hid, hA, hBn] at E
        have E : Hid (D = B - A) := E
        clear hA hBn
        go_upto_region 9 with (first | (go_at_call 17; refine (yearOf_any _ _).mono ?_; rintro e wq ⟨rfl, hq⟩; have hq := hq.symm; subst hq; rw [HP.out]) | (go_at_call 18; refine (right_date _ _ _ _).mono ?_; rintro e wn ⟨rfl, bn⟩; (first | rw [HA.out] | rw [HB.out]); replace hB := below_then hB bn; replace hC := cW _ hB; clear bn) | (go_at_call 19; refine (before_any _ _ _ _ _ _ _).mono ?_; rintro e wn ⟨rfl, bn⟩; rw [HF.out]; replace hB := below_then hB bn; replace hC := cW _ hB; clear bn))
        have hw : IntKind.i64.wrap (B - A) = B - A := wrap_in _ (by omega) (by omega)
        go_region_held3 (fun wx => Below W.heap.size W wx ∧ wx.cell? ⟨w.heap.size, 0, none⟩ = some (.int .i64 y) ∧ wx.cell? ⟨w.heap.size, 1, none⟩ = some (.int .i64 m) ∧ wx.cell? ⟨w.heap.size, 2, none⟩ = some (.int .i64 d) ∧ wx.cell? ⟨w.heap.size + 1, 0, none⟩ = some (.int .i64 p) ∧ wx.cell? ⟨w.heap.size + 1, 1, none⟩ = some (.int .i64 q) ∧ wx.cell? ⟨w.heap.size + 1, 2, none⟩ = some (.int .i64 r))
          (first
            | exact ⟨hB.drew, cW _ hB.drew⟩
            | (go_split_ands; have hk := below_then (by assumption : Below W.heap.size W _) (by assumption); exact ⟨hk, cW _ hk⟩))
          (first | ((go_at_call 15; refine (number_any _ _ _ _).mono ?_; rintro e wn ⟨rfl, bn⟩; first | rw [NA.out] | rw [NB.out])))
        rename_i hH
        have hE := hH.1
        clear hH
        go_wp2
        go_ret2
        exact ⟨by rw [E.out]; rfl, below_then bW hE⟩
      · have k1 : (k == 1) = false := beq_eq_false_iff_ne.2 h1
        by_cases h2 : k = 2
        · subst h2
          have E : Hid (D = Cal.num p q r - Cal.num y m d) := by rw [Hid, ← HE.out, Acc.days_act hok (by omega)]
          clear ha hb hok
          obtain ⟨A, hA⟩ : ∃ A, Cal.num y m d = A := ⟨_, rfl⟩
          obtain ⟨B, hBn⟩ : ∃ A, Cal.num p q r = A := ⟨_, rfl⟩
          rw [hA] at na hn
          rw [hBn] at nb hn
          have NA : Hid (Cal.num y m d = A) := hA
          have NB : Hid (Cal.num p q r = B) := hBn
          rw [Hid, hA, hBn] at E
          have E : Hid (D = B - A) := E
          clear hA hBn
          go_upto_region 9 with (first | (go_at_call 17; refine (yearOf_any _ _).mono ?_; rintro e wq ⟨rfl, hq⟩; have hq := hq.symm; subst hq; rw [HP.out]) | (go_at_call 18; refine (right_date _ _ _ _).mono ?_; rintro e wn ⟨rfl, bn⟩; (first | rw [HA.out] | rw [HB.out]); replace hB := below_then hB bn; replace hC := cW _ hB; clear bn) | (go_at_call 19; refine (before_any _ _ _ _ _ _ _).mono ?_; rintro e wn ⟨rfl, bn⟩; rw [HF.out]; replace hB := below_then hB bn; replace hC := cW _ hB; clear bn))
          have hw : IntKind.i64.wrap (B - A) = B - A := wrap_in _ (by omega) (by omega)
          go_region_held3 (fun wx => Below W.heap.size W wx ∧ wx.cell? ⟨w.heap.size, 0, none⟩ = some (.int .i64 y) ∧ wx.cell? ⟨w.heap.size, 1, none⟩ = some (.int .i64 m) ∧ wx.cell? ⟨w.heap.size, 2, none⟩ = some (.int .i64 d) ∧ wx.cell? ⟨w.heap.size + 1, 0, none⟩ = some (.int .i64 p) ∧ wx.cell? ⟨w.heap.size + 1, 1, none⟩ = some (.int .i64 q) ∧ wx.cell? ⟨w.heap.size + 1, 2, none⟩ = some (.int .i64 r))
            (first
              | exact ⟨hB.drew, cW _ hB.drew⟩
              | (go_split_ands; have hk := below_then (by assumption : Below W.heap.size W _) (by assumption); exact ⟨hk, cW _ hk⟩))
            (first | ((go_at_call 15; refine (number_any _ _ _ _).mono ?_; rintro e wn ⟨rfl, bn⟩; first | rw [NA.out] | rw [NB.out])))
          rename_i hH
          have hE := hH.1
          clear hH
          go_wp2
          go_ret2
          exact ⟨by rw [E.out]; rfl, below_then bW hE⟩
        · have k2 : (k == 2) = false := beq_eq_false_iff_ne.2 h2
          have E : Hid (D = 0) := by rw [Hid, ← HE.out, Acc.days_other y m d p q r h0 h1 h2]
          clear ha hb hok h0 h1 h2 na nb hn
          go_wp2_with (first | (go_at_call 17; refine (yearOf_any _ _).mono ?_; rintro e wq ⟨rfl, hq⟩; have hq := hq.symm; subst hq; rw [HP.out]) | (go_at_call 18; refine (right_date _ _ _ _).mono ?_; rintro e wn ⟨rfl, bn⟩; (first | rw [HA.out] | rw [HB.out]); replace hB := below_then hB bn; replace hC := cW _ hB; clear bn) | (go_at_call 19; refine (before_any _ _ _ _ _ _ _).mono ?_; rintro e wn ⟨rfl, bn⟩; rw [HF.out]; replace hB := below_then hB bn; replace hC := cW _ hB; clear bn))
          go_ret2
          exact ⟨by rw [E.out]; rfl, below_then bW hB⟩
  · have hok' : Acc.okB y m d p q r = false := by simpa using hok
    have E : Hid (D = 0) := by rw [Hid, ← HE.out, Acc.days_none hok']
    cases ha : Cal.rightB y m d
    · have HA : Hid (Cal.rightB y m d = false) := ha
      have HB := HA
      have HF := HA
      clear ha hok hok'
      go_wp2_with (first | (go_at_call 17; refine (yearOf_any _ _).mono ?_; rintro e wq ⟨rfl, hq⟩; have hq := hq.symm; subst hq; rw [HP.out]) | (go_at_call 18; refine (right_date _ _ _ _).mono ?_; rintro e wn ⟨rfl, bn⟩; (first | rw [HA.out] | rw [HB.out]); replace hB := below_then hB bn; replace hC := cW _ hB; clear bn) | (go_at_call 19; refine (before_any _ _ _ _ _ _ _).mono ?_; rintro e wn ⟨rfl, bn⟩; rw [HF.out]; replace hB := below_then hB bn; replace hC := cW _ hB; clear bn))
      go_ret2
      exact ⟨by rw [E.out]; rfl, below_then bW hB⟩
    · have HA : Hid (Cal.rightB y m d = true) := ha
      cases hb : Cal.rightB p q r
      · have HB : Hid (Cal.rightB p q r = false) := hb
        have HF := HA
        clear ha hb hok hok'
        go_wp2_with (first | (go_at_call 17; refine (yearOf_any _ _).mono ?_; rintro e wq ⟨rfl, hq⟩; have hq := hq.symm; subst hq; rw [HP.out]) | (go_at_call 18; refine (right_date _ _ _ _).mono ?_; rintro e wn ⟨rfl, bn⟩; (first | rw [HA.out] | rw [HB.out]); replace hB := below_then hB bn; replace hC := cW _ hB; clear bn) | (go_at_call 19; refine (before_any _ _ _ _ _ _ _).mono ?_; rintro e wn ⟨rfl, bn⟩; rw [HF.out]; replace hB := below_then hB bn; replace hC := cW _ hB; clear bn))
        go_ret2
        exact ⟨by rw [E.out]; rfl, below_then bW hB⟩
      · have HB : Hid (Cal.rightB p q r = true) := hb
        have HF : Hid (decide (Cal.num p q r < Cal.num y m d) = true) := by
          simp [Acc.okB, ha, hb] at hok'
          exact decide_eq_true (by omega)
        clear ha hb hok hok'
        go_wp2_with (first | (go_at_call 17; refine (yearOf_any _ _).mono ?_; rintro e wq ⟨rfl, hq⟩; have hq := hq.symm; subst hq; rw [HP.out]) | (go_at_call 18; refine (right_date _ _ _ _).mono ?_; rintro e wn ⟨rfl, bn⟩; (first | rw [HA.out] | rw [HB.out]); replace hB := below_then hB bn; replace hC := cW _ hB; clear bn) | (go_at_call 19; refine (before_any _ _ _ _ _ _ _).mono ?_; rintro e wn ⟨rfl, bn⟩; rw [HF.out]; replace hB := below_then hB bn; replace hC := cW _ hB; clear bn))
        go_ret2
        exact ⟨by rw [E.out]; rfl, below_then bW hB⟩

set_option maxHeartbeats 1000000 in
theorem interest_any (b t k y m d p q r : Int) (w : World) :
    Calls Try.prog 9 #[.int .i64 b, .int .i64 t, .int .i64 k, .agg #[.int .i64 y, .int .i64 m, .int .i64 d], .agg #[.int .i64 p, .int .i64 q, .int .i64 r]] w fun e w' => e = .returned (.tuple #[.int .i64 (Acc.intV b t k y m d p q r), .bool (Acc.intB b t k y m d p q r)]) ∧ Below w.heap.size w w' := by
  by_cases h0 : t < 0
  · obtain ⟨e1, e2⟩ := Acc.int_out (b := b) (k := k) (y := y) (m := m) (d := d) (p := p) (q := q) (r := r) (Or.inl h0)
    rw [e1, e2]
    clear e1 e2
    go_enter Try.func9, Try.ntmps9
    go_wp2
    go_ret2
    refine ⟨rfl, ?_⟩
    repeat (first | with_reducible exact Below.refl _ _ | with_reducible refine below_alloc ?_ _ | with_reducible refine Below.setCell ?_ (by simp) _)
  · by_cases h1 : 5000 < t
    · obtain ⟨e1, e2⟩ := Acc.int_out (b := b) (k := k) (y := y) (m := m) (d := d) (p := p) (q := q) (r := r) (Or.inr h1)
      rw [e1, e2]
      clear e1 e2
      go_enter Try.func9, Try.ntmps9
      go_wp2
      go_ret2
      refine ⟨rfl, ?_⟩
      repeat (first | with_reducible exact Below.refl _ _ | with_reducible refine below_alloc ?_ _ | with_reducible refine Below.setCell ?_ (by simp) _)
    · obtain ⟨e1, e2⟩ := Acc.int_in (b := b) (k := k) (y := y) (m := m) (d := d) (p := p) (q := q) (r := r) (show 0 ≤ t by omega) (show t ≤ 5000 by omega)
      rw [e1, e2]
      obtain ⟨D, hD⟩ : ∃ D, Acc.days k y m d p q r = D := ⟨_, rfl⟩
      obtain ⟨P, hP⟩ : ∃ P, Acc.per k = P := ⟨_, rfl⟩
      have db := Acc.days_bd k y m d p q r
      have pb := Acc.per_bd k
      rw [hD] at db
      rw [hP] at pb
      rw [hD, hP]
      obtain ⟨g0, g1⟩ := Acc.rate_bd t D (by omega) (by omega) db.1 db.2
      obtain ⟨p0, p1⟩ := pb
      have HD : Hid (Acc.days k y m d p q r = D) := hD
      have HP : Hid (Acc.per k = P) := hP
      clear e1 e2 hD hP db
      have h0' : 0 ≤ t := by omega
      have h1' : t ≤ 5000 := by omega
      clear h0 h1
      have hbel : Below w.heap.size w ((w.alloc (.cells #[.int .i64 y, .int .i64 m, .int .i64 d] 23)).alloc (.cells #[.int .i64 p, .int .i64 q, .int .i64 r] 23)) := below_alloc (below_alloc (Below.refl _ _) _) _
      go_enter Try.func9, Try.ntmps9
      go_wp2_with (first
        | (go_at_call 8; refine (days_any _ _ _ _ _ _ _ _).mono ?_; rintro e w1 ⟨rfl, b1⟩; rw [HD.out, HP.out])
        | (go_at_call 21; refine (mulDiv_any _ _ _ _ _).mono ?_; rintro e w2 ⟨rfl, b2⟩))
      go_ret2
      exact ⟨rfl, below_then (below_then hbel b1) b2⟩
end Go.Proofs.Ytcnnjegoejphjaa
