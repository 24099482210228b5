/-
  The walk of AccrualAdds.
-/
import Derived.Test.YtcnnjegoejphjaaAccrualRunsWalk
import Derived.Test.YtcnnjegoejphjaaAcc2
import Derived.Test.YtcnnjegoejphjaaBook
namespace Go.Proofs.Ytcnnjegoejphjaa
open Go.RowKit

theorem adds_days {k y m d p q r A B : Int} (hk : k = 1 ∨ k = 2) (ha : Cal.rightB y m d = true) (na : Cal.num y m d = A) (hb : Cal.rightB p q r = true) (nb : Cal.num p q r = B) (h : A ≤ B) : Acc.days k y m d p q r = B - A := by
  rw [Acc.days_act (Acc.okB_mk ha hb (by omega)) hk]; omega
theorem adds_back {k y m d p q r A B : Int} (hk : k = 1 ∨ k = 2) (ha : Cal.rightB y m d = true) (na : Cal.num y m d = A) (hb : Cal.rightB p q r = true) (nb : Cal.num p q r = B) (h : A ≤ B) : Acc.days k p q r y m d = 0 := by
  by_cases e : A = B
  · rw [Acc.days_act (Acc.okB_mk hb ha (by omega)) hk]; omega
  · exact Acc.days_none (by simp [Acc.okB]; omega)
theorem year_lo {y m d : Int} (h : Cal.rightB y m d = true) (hn : Cal.num y m d ≤ 3000000) : y ≤ 9000 := by
  rcases Int.lt_or_le 9000 y with g | g
  · have a := Cal.dby_mono 9001 y (by omega)
    have e : Cal.dby 9001 = 3287182 := by decide
    have s := Cal.right_span h
    omega
  · exact g
theorem adds_shift {y m e k : Int} (h : Cal.rightB y m e = true) (hy : y ≤ 9000) (e1 : e ≤ 28) (k0 : 0 < k) (k1 : k ≤ 12) :
    ∃ Y M, Cal.shY y m e k = Y ∧ Cal.shM y m e k = M ∧ Cal.shD y m e k = e ∧ Acc.days 0 y m e Y M e = 30 * k := by
  obtain ⟨a1, a2, a3, a4, a5, a6⟩ := Cal.right_in h
  obtain ⟨Y, M, L, D, hL, hD, s1, s2, s3, hr, _, hA, _, _, _, hn⟩ := Cal.shift_in (k := k) h (by omega) (by omega)
  obtain ⟨b1, b2, b3, b4, b5, b6⟩ := Cal.right_in hr
  have l := Cal.last_28 b3 b4 b5 b6
  have hDe : D = e := by rw [hD, if_neg (by omega)]
  subst hDe
  refine ⟨Y, M, s1, s2, s3, ?_⟩
  rw [Acc.days_com (Acc.okB_mk h hr (hn k0))]
  unfold Acc.com
  rw [if_neg (by omega)]
  omega
theorem adds_none {b k y m d : Int} (hk : k = 1 ∨ k = 2) (h : Cal.rightB y m d = true) (b0 : 0 ≤ b) (b1 : b ≤ 1099511627776) : Acc.intV b 300 k y m d y m d = 0 ∧ Acc.intB b 300 k y m d y m d = true := by
  have e := Acc.bear (b := b) (t := 300) (n := 0) hk (Acc.okB_mk h h (by omega)) (D := 0) (by omega) b0 (by omega) (by omega) (by omega) (by simp) (by omega)
  have p := Acc.per_bd k
  exact ⟨by rw [e.2.1, Acc.half_zero _ (by omega)], e.1⟩

set_option maxRecDepth 100000 in
set_option maxHeartbeats 8000000 in
theorem adds_walk (n days more basis k P : Int) (hk : k = 1 ∨ k = 2) (HK : Hid (1 + basis % (2 - 1 + 1) = k)) (HP : Hid (Acc.per k = P)) (hP : (P != 360 + 5 * (k - 1)) = false) (w : World) :
    Calls Try.prog 5 #[.int .i64 n, .int .i64 days, .int .i64 more, .int .i64 basis] w fun e w' => e = .returned (.bool true) ∧ Below w.heap.size w w' := by
  obtain ⟨N, h1⟩ : ∃ b, 0 + n % (3000000 - 0 + 1) = b := ⟨_, rfl⟩
  obtain ⟨i, h2⟩ : ∃ b, 0 + days % (5000 - 0 + 1) = b := ⟨_, rfl⟩
  obtain ⟨j, h3⟩ : ∃ b, 0 + more % (5000 - 0 + 1) = b := ⟨_, rfl⟩
  obtain ⟨Q, h4⟩ : ∃ b, 0 + more % (1099511627776 - 0 + 1) = b := ⟨_, rfl⟩
  have g1 : 0 + n % 3000001 = N := h1
  have g2 : 0 + days % 5001 = i := h2
  have g3 : 0 + more % 5001 = j := h3
  have g4 : 0 + more % 1099511627777 = Q := h4
  have n0 : 0 ≤ N := by omega
  have n1 : N ≤ 3000000 := by omega
  have i0 : 0 ≤ i := by omega
  have i1 : i ≤ 5000 := by omega
  have j0 : 0 ≤ j := by omega
  have j1 : j ≤ 5000 := by omega
  have q0 : 0 ≤ Q := by omega
  have q1 : Q ≤ 1099511627776 := by omega
  have H1 : Hid (0 + n % (3000000 - 0 + 1) = N) := h1
  have H2 : Hid (0 + days % (5000 - 0 + 1) = i) := h2
  have H3 : Hid (0 + more % (5000 - 0 + 1) = j) := h3
  have H4 : Hid (0 + more % (1099511627776 - 0 + 1) = Q) := h4
  have H5 := HK
  obtain ⟨y, m, d, ha, na⟩ := Acc.date_at N n0 (by omega)
  obtain ⟨p, q, r, hb, nb⟩ := Acc.date_at (N + i) (by omega) (by omega)
  obtain ⟨u, v, x, hc, nc⟩ := Acc.date_at (N + i + j) (by omega) (by omega)
  have DA : Hid (Cal.rightB y m d = true ∧ Cal.num y m d = N) := ⟨ha, na⟩
  have DB : Hid (Cal.rightB p q r = true ∧ Cal.num p q r = N + i) := ⟨hb, nb⟩
  have DC : Hid (Cal.rightB u v x = true ∧ Cal.num u v x = N + i + j) := ⟨hc, nc⟩
  have D1 : Hid (Acc.days k y m d p q r = i) := by rw [Hid, adds_days hk ha na hb nb (by omega)]; omega
  have D2 : Hid (Acc.days k p q r u v x = j) := by rw [Hid, adds_days hk hb nb hc nc (by omega)]; omega
  have D3 : Hid (Acc.days k y m d u v x = i + j) := by rw [Hid, adds_days hk ha na hc nc (by omega)]; omega
  have D4 : Hid (Acc.days k u v x y m d = 0) := adds_back hk ha na hc nc (by omega)
  have I1 : Hid (Acc.intV Q 300 k y m d y m d = 0 ∧ Acc.intB Q 300 k y m d y m d = true) := adds_none hk ha q0 q1
  obtain ⟨a1, a2, a3, a4, a5, a6⟩ := Cal.right_in ha
  have yl := year_lo ha (by omega)
  have dl := (Cal.last_lo y m).2
  obtain ⟨e, he⟩ : ∃ e, (if 28 < d then 28 else d) = e := ⟨_, rfl⟩
  have he1 : 1 ≤ e ∧ e ≤ 28 ∧ e ≤ d := by rw [← he]; split <;> omega
  have hr : Cal.rightB y m e = true := Cal.rightB_mk he1.1 (by omega)
  obtain ⟨Y1, M1, s1, s2, s3, s4⟩ := adds_shift (k := 1) hr yl he1.2.1 (by omega) (by omega)
  obtain ⟨Y2, M2, t1, t2, t3, t4⟩ := adds_shift (k := 12) hr yl he1.2.1 (by omega) (by omega)
  have S1 : Hid ((Cal.shY y m e 1 = Y1 ∧ Cal.shM y m e 1 = M1 ∧ Cal.shD y m e 1 = e) ∧ Acc.days 0 y m e Y1 M1 e = 30) := ⟨⟨s1, s2, s3⟩, by rw [s4]; rfl⟩
  have S2 : Hid ((Cal.shY y m e 12 = Y2 ∧ Cal.shM y m e 12 = M2 ∧ Cal.shD y m e 12 = e) ∧ Acc.days 0 y m e Y2 M2 e = 360) := ⟨⟨t1, t2, t3⟩, by rw [t4]; rfl⟩
  have kb : 1 ≤ k ∧ k ≤ 2 := by omega
  obtain ⟨kb0, kb1⟩ := kb
  clear h1 h2 h3 h4 g1 g2 g3 g4 ha na hb nb hc nc a1 a2 a3 a4 a5 a6 yl dl he1 hr s1 s2 s3 s4 t1 t2 t3 t4 hk
  go_enter Try.func5, Try.ntmps5
  go_upto_region 2 with (first
    | (go_at_call 11; refine (within_any _ _ _ (by omega) (by omega) (by omega) (by omega) _).mono ?_; rintro e wq ⟨rfl, hq⟩; have hq := hq.symm; subst hq; (first | rw [H1.out] | rw [H2.out] | rw [H3.out] | rw [H4.out] | rw [H5.out]))
    | (go_at_call 14; refine (of_num y m d N _ DA.out.1 DA.out.2).mono ?_; rintro e w1 ⟨rfl, b1⟩))
  refine wp_letter (fun wx => Below w.heap.size w wx ∧ ∃ A, w1.heap.size = A ∧ wx.cell? ⟨A, 0, none⟩ = some (.int .i64 y) ∧ wx.cell? ⟨A, 1, none⟩ = some (.int .i64 m) ∧ wx.cell? ⟨A, 2, none⟩ = some (.int .i64 d)) ?_ ?_
  · exact ⟨below_alloc b1 _, _, rfl, by simp⟩
  rintro W1 ⟨bW, A, eA, hC⟩
  rw [eA]
  clear eA b1
  have cW : ∀ wx, Below W1.heap.size W1 wx → wx.cell? ⟨A, 0, none⟩ = some (.int .i64 y) ∧ wx.cell? ⟨A, 1, none⟩ = some (.int .i64 m) ∧ wx.cell? ⟨A, 2, none⟩ = some (.int .i64 d) := by
    obtain ⟨c1, c2, c3⟩ := hC
    exact fun wx b => ⟨cell_keep b c1, cell_keep b c2, cell_keep b c3⟩
  have hB : Below W1.heap.size W1 W1 := Below.refl _ _
  go_upto_region 3 with (first
    | (go_at_call 11; refine (within_any _ _ _ (by omega) (by omega) (by omega) (by omega) _).mono ?_; rintro e wq ⟨rfl, hq⟩; have hq := hq.symm; subst hq; (first | rw [H1.out] | rw [H2.out] | rw [H3.out] | rw [H4.out] | rw [H5.out]))
    | (go_at_call 15; refine (number_any _ _ _ _).mono ?_; rintro e wn ⟨rfl, bn⟩; rw [DA.out.2]; replace hB := below_then hB bn; replace hC := cW _ hB; clear bn)
    | (go_at_call 14; refine (of_num p q r (N + i) _ DB.out.1 DB.out.2).mono ?_; rintro e wz ⟨rfl, bn⟩; replace hB := below_then hB bn; replace hC := cW _ hB; clear bn))
  refine wp_letter (fun wx => Below w.heap.size w wx ∧ ∃ B, wz.heap.size = B ∧ wx.cell? ⟨A, 0, none⟩ = some (.int .i64 y) ∧ wx.cell? ⟨A, 1, none⟩ = some (.int .i64 m) ∧ wx.cell? ⟨A, 2, none⟩ = some (.int .i64 d) ∧ wx.cell? ⟨B, 0, none⟩ = some (.int .i64 p) ∧ wx.cell? ⟨B, 1, none⟩ = some (.int .i64 q) ∧ wx.cell? ⟨B, 2, none⟩ = some (.int .i64 r)) ?_ ?_
  · have b2 := below_alloc (Below.refl wz.heap.size wz) (.cells #[.int .i64 p, .int .i64 q, .int .i64 r] 23)
    obtain ⟨c1, c2, c3⟩ := hC
    exact ⟨below_alloc (below_then bW hB) _, _, rfl, cell_keep b2 c1, cell_keep b2 c2, cell_keep b2 c3, by simp⟩
  clear bW hB hC cW
  rintro W2 ⟨bW, B, eB, hC⟩
  rw [eB]
  clear eB
  have cW : ∀ wx, Below W2.heap.size W2 wx → wx.cell? ⟨A, 0, none⟩ = some (.int .i64 y) ∧ wx.cell? ⟨A, 1, none⟩ = some (.int .i64 m) ∧ wx.cell? ⟨A, 2, none⟩ = some (.int .i64 d) ∧ wx.cell? ⟨B, 0, none⟩ = some (.int .i64 p) ∧ wx.cell? ⟨B, 1, none⟩ = some (.int .i64 q) ∧ wx.cell? ⟨B, 2, none⟩ = some (.int .i64 r) := by
    obtain ⟨c1, c2, c3, c4, c5, c6⟩ := hC
    exact fun wx b => ⟨cell_keep b c1, cell_keep b c2, cell_keep b c3, cell_keep b c4, cell_keep b c5, cell_keep b c6⟩
  have hB : Below W2.heap.size W2 W2 := Below.refl _ _
  go_upto_region 4 with (first
    | (go_at_call 11; refine (within_any _ _ _ (by omega) (by omega) (by omega) (by omega) _).mono ?_; rintro e wq ⟨rfl, hq⟩; have hq := hq.symm; subst hq; (first | rw [H1.out] | rw [H2.out] | rw [H3.out] | rw [H4.out] | rw [H5.out]))
    | (go_at_call 15; refine (number_any _ _ _ _).mono ?_; rintro e wn ⟨rfl, bn⟩; rw [DB.out.2]; replace hB := below_then hB bn; replace hC := cW _ hB; clear bn)
    | (go_at_call 14; refine (of_num u v x (N + i + j) _ DC.out.1 DC.out.2).mono ?_; rintro e wz ⟨rfl, bn⟩; replace hB := below_then hB bn; replace hC := cW _ hB; clear bn))
  refine wp_letter (fun wx => Below w.heap.size w wx ∧ ∃ G, wz.heap.size = G ∧ wx.cell? ⟨A, 0, none⟩ = some (.int .i64 y) ∧ wx.cell? ⟨A, 1, none⟩ = some (.int .i64 m) ∧ wx.cell? ⟨A, 2, none⟩ = some (.int .i64 d) ∧ wx.cell? ⟨B, 0, none⟩ = some (.int .i64 p) ∧ wx.cell? ⟨B, 1, none⟩ = some (.int .i64 q) ∧ wx.cell? ⟨B, 2, none⟩ = some (.int .i64 r) ∧ wx.cell? ⟨G, 0, none⟩ = some (.int .i64 u) ∧ wx.cell? ⟨G, 1, none⟩ = some (.int .i64 v) ∧ wx.cell? ⟨G, 2, none⟩ = some (.int .i64 x)) ?_ ?_
  · have b2 := below_alloc (Below.refl wz.heap.size wz) (.cells #[.int .i64 u, .int .i64 v, .int .i64 x] 23)
    obtain ⟨c1, c2, c3, c4, c5, c6⟩ := hC
    exact ⟨below_alloc (below_then bW hB) _, _, rfl, cell_keep b2 c1, cell_keep b2 c2, cell_keep b2 c3, cell_keep b2 c4, cell_keep b2 c5, cell_keep b2 c6, by simp⟩
  clear bW hB hC cW
  rintro W3 ⟨bW, G, eG, hC⟩
  rw [eG]
  clear eG
  have cW : ∀ wx, Below W3.heap.size W3 wx → wx.cell? ⟨A, 0, none⟩ = some (.int .i64 y) ∧ wx.cell? ⟨A, 1, none⟩ = some (.int .i64 m) ∧ wx.cell? ⟨A, 2, none⟩ = some (.int .i64 d) ∧ wx.cell? ⟨B, 0, none⟩ = some (.int .i64 p) ∧ wx.cell? ⟨B, 1, none⟩ = some (.int .i64 q) ∧ wx.cell? ⟨B, 2, none⟩ = some (.int .i64 r) ∧ wx.cell? ⟨G, 0, none⟩ = some (.int .i64 u) ∧ wx.cell? ⟨G, 1, none⟩ = some (.int .i64 v) ∧ wx.cell? ⟨G, 2, none⟩ = some (.int .i64 x) := by
    obtain ⟨c1, c2, c3, c4, c5, c6, c7, c8, c9⟩ := hC
    exact fun wx b => ⟨cell_keep b c1, cell_keep b c2, cell_keep b c3, cell_keep b c4, cell_keep b c5, cell_keep b c6, cell_keep b c7, cell_keep b c8, cell_keep b c9⟩
  have hB : Below W3.heap.size W3 W3 := Below.refl _ _
  go_upto_region 8 with (first | (go_at_call 11; refine (within_any _ _ _ (by omega) (by omega) (by omega) (by omega) _).mono ?_; rintro e wq ⟨rfl, hq⟩; have hq := hq.symm; subst hq; (first | rw [H1.out] | rw [H2.out] | rw [H3.out] | rw [H4.out] | rw [H5.out])) | (go_at_call 8; refine (days_any _ _ _ _ _ _ _ _).mono ?_; rintro e wn ⟨rfl, bn⟩; (first | rw [D1.out] | rw [D2.out] | rw [D3.out] | rw [D4.out]); rw [HP.out]; replace hB := below_then hB bn; replace hC := cW _ hB; clear bn))
  have w1 : IntKind.i64.wrap (i + j) = i + j := wrap_in _ (by omega) (by omega)
  have w2 : IntKind.i64.wrap (k - 1) = k - 1 := wrap_in _ (by omega) (by omega)
  have w3 : IntKind.i64.wrap (5 * (k - 1)) = 5 * (k - 1) := wrap_in _ (by omega) (by omega)
  have w4 : IntKind.i64.wrap (360 + 5 * (k - 1)) = 360 + 5 * (k - 1) := wrap_in _ (by omega) (by omega)
  have w5 : IntKind.i64.wrap (N + i - N) = i := by rw [wrap_in _ (by omega) (by omega)]; omega
  go_region_held3 (fun wx => Below W3.heap.size W3 wx ∧ wx.cell? ⟨A, 0, none⟩ = some (.int .i64 y) ∧ wx.cell? ⟨A, 1, none⟩ = some (.int .i64 m) ∧ wx.cell? ⟨A, 2, none⟩ = some (.int .i64 d) ∧ wx.cell? ⟨B, 0, none⟩ = some (.int .i64 p) ∧ wx.cell? ⟨B, 1, none⟩ = some (.int .i64 q) ∧ wx.cell? ⟨B, 2, none⟩ = some (.int .i64 r) ∧ wx.cell? ⟨G, 0, none⟩ = some (.int .i64 u) ∧ wx.cell? ⟨G, 1, none⟩ = some (.int .i64 v) ∧ wx.cell? ⟨G, 2, none⟩ = some (.int .i64 x)) (((try go_split_ands); refine held (cW _) ?_; repeat (first | with_reducible assumption | with_reducible exact below_thn (by assumption) (by assumption) | with_reducible refine Below.drew ?_ | with_reducible exact Below.refl _ _))) (first
    | ((go_at_call 15; refine (number_any _ _ _ _).mono ?_; rintro e wn ⟨rfl, bn⟩; (first | rw [DA.out.2] | rw [DB.out.2]))))
  rename_i hH; replace hB := hH.1; replace hC := hH.2; clear hH
  clear w1 w2 w3 w4 w5
  go_upto_region 11 with fail
  refine wp_letter (fun wx => Below w.heap.size w wx ∧ ∃ Z, wn.heap.size = Z ∧ wx.cell? ⟨A, 0, none⟩ = some (.int .i64 y) ∧ wx.cell? ⟨A, 1, none⟩ = some (.int .i64 m) ∧ wx.cell? ⟨A, 2, none⟩ = some (.int .i64 d) ∧ wx.cell? ⟨B, 0, none⟩ = some (.int .i64 p) ∧ wx.cell? ⟨B, 1, none⟩ = some (.int .i64 q) ∧ wx.cell? ⟨B, 2, none⟩ = some (.int .i64 r) ∧ wx.cell? ⟨G, 0, none⟩ = some (.int .i64 u) ∧ wx.cell? ⟨G, 1, none⟩ = some (.int .i64 v) ∧ wx.cell? ⟨G, 2, none⟩ = some (.int .i64 x) ∧ wx.cell? ⟨Z, 0, none⟩ = some (.int .i64 y) ∧ wx.cell? ⟨Z, 1, none⟩ = some (.int .i64 m) ∧ wx.cell? ⟨Z, 2, none⟩ = some (.int .i64 e)) ?_ ?_
  · have b2 := below_alloc (Below.refl wn.heap.size wn) (.cells #[.int .i64 y, .int .i64 m, .int .i64 e] 23)
    obtain ⟨c1, c2, c3, c4, c5, c6, c7, c8, c9⟩ := hC
    exact ⟨below_alloc (below_then bW hB) _, _, rfl, cell_keep b2 c1, cell_keep b2 c2, cell_keep b2 c3, cell_keep b2 c4, cell_keep b2 c5, cell_keep b2 c6, cell_keep b2 c7, cell_keep b2 c8, cell_keep b2 c9, by simp⟩
  clear bW hB hC cW he hP
  rintro W4 ⟨bW, Z, eZ, hC⟩
  rw [eZ]
  clear eZ
  have cW : ∀ wx, Below W4.heap.size W4 wx → wx.cell? ⟨A, 0, none⟩ = some (.int .i64 y) ∧ wx.cell? ⟨A, 1, none⟩ = some (.int .i64 m) ∧ wx.cell? ⟨A, 2, none⟩ = some (.int .i64 d) ∧ wx.cell? ⟨B, 0, none⟩ = some (.int .i64 p) ∧ wx.cell? ⟨B, 1, none⟩ = some (.int .i64 q) ∧ wx.cell? ⟨B, 2, none⟩ = some (.int .i64 r) ∧ wx.cell? ⟨G, 0, none⟩ = some (.int .i64 u) ∧ wx.cell? ⟨G, 1, none⟩ = some (.int .i64 v) ∧ wx.cell? ⟨G, 2, none⟩ = some (.int .i64 x) ∧ wx.cell? ⟨Z, 0, none⟩ = some (.int .i64 y) ∧ wx.cell? ⟨Z, 1, none⟩ = some (.int .i64 m) ∧ wx.cell? ⟨Z, 2, none⟩ = some (.int .i64 e) := by
    obtain ⟨c1, c2, c3, c4, c5, c6, c7, c8, c9, c10, c11, c12⟩ := hC
    exact fun wx b => ⟨cell_keep b c1, cell_keep b c2, cell_keep b c3, cell_keep b c4, cell_keep b c5, cell_keep b c6, cell_keep b c7, cell_keep b c8, cell_keep b c9, cell_keep b c10, cell_keep b c11, cell_keep b c12⟩
  have hB : Below W4.heap.size W4 W4 := Below.refl _ _
  have P0 : Hid (Acc.per 0 = 360) := rfl
  go_region_held3 (fun wx => Below W4.heap.size W4 wx ∧ wx.cell? ⟨A, 0, none⟩ = some (.int .i64 y) ∧ wx.cell? ⟨A, 1, none⟩ = some (.int .i64 m) ∧ wx.cell? ⟨A, 2, none⟩ = some (.int .i64 d) ∧ wx.cell? ⟨B, 0, none⟩ = some (.int .i64 p) ∧ wx.cell? ⟨B, 1, none⟩ = some (.int .i64 q) ∧ wx.cell? ⟨B, 2, none⟩ = some (.int .i64 r) ∧ wx.cell? ⟨G, 0, none⟩ = some (.int .i64 u) ∧ wx.cell? ⟨G, 1, none⟩ = some (.int .i64 v) ∧ wx.cell? ⟨G, 2, none⟩ = some (.int .i64 x) ∧ wx.cell? ⟨Z, 0, none⟩ = some (.int .i64 y) ∧ wx.cell? ⟨Z, 1, none⟩ = some (.int .i64 m) ∧ wx.cell? ⟨Z, 2, none⟩ = some (.int .i64 e)) (((try go_split_ands); refine held (cW _) ?_; repeat (first | with_reducible assumption | with_reducible exact below_thn (by assumption) (by assumption) | with_reducible refine Below.drew ?_ | with_reducible exact Below.refl _ _))) (first
    | ((go_at_call 16; refine (shift_any _ _ _ _ _).mono ?_; rintro e wn ⟨rfl, bn⟩; rw [S1.out.1.1, S1.out.1.2.1, S1.out.1.2.2]))
    | ((go_at_call 8; refine (days_any _ _ _ _ _ _ _ _).mono ?_; rintro e wn ⟨rfl, bn⟩; rw [S1.out.2, P0.out])))
  rename_i hH; replace hB := hH.1; replace hC := hH.2; clear hH
  go_upto_region 12 with fail
  go_region_held3 (fun wx => Below W4.heap.size W4 wx ∧ wx.cell? ⟨A, 0, none⟩ = some (.int .i64 y) ∧ wx.cell? ⟨A, 1, none⟩ = some (.int .i64 m) ∧ wx.cell? ⟨A, 2, none⟩ = some (.int .i64 d) ∧ wx.cell? ⟨B, 0, none⟩ = some (.int .i64 p) ∧ wx.cell? ⟨B, 1, none⟩ = some (.int .i64 q) ∧ wx.cell? ⟨B, 2, none⟩ = some (.int .i64 r) ∧ wx.cell? ⟨G, 0, none⟩ = some (.int .i64 u) ∧ wx.cell? ⟨G, 1, none⟩ = some (.int .i64 v) ∧ wx.cell? ⟨G, 2, none⟩ = some (.int .i64 x) ∧ wx.cell? ⟨Z, 0, none⟩ = some (.int .i64 y) ∧ wx.cell? ⟨Z, 1, none⟩ = some (.int .i64 m) ∧ wx.cell? ⟨Z, 2, none⟩ = some (.int .i64 e)) (((try go_split_ands); refine held (cW _) ?_; repeat (first | with_reducible assumption | with_reducible exact below_thn (by assumption) (by assumption) | with_reducible refine Below.drew ?_ | with_reducible exact Below.refl _ _))) (first
    | ((go_at_call 16; refine (shift_any _ _ _ _ _).mono ?_; rintro e wn ⟨rfl, bn⟩; rw [S2.out.1.1, S2.out.1.2.1, S2.out.1.2.2]))
    | ((go_at_call 8; refine (days_any _ _ _ _ _ _ _ _).mono ?_; rintro e wn ⟨rfl, bn⟩; rw [S2.out.2, P0.out])))
  rename_i hH; replace hB := hH.1; replace hC := hH.2; clear hH
  go_upto_region 13 with fail
  go_region_held3 (fun wx => Below W4.heap.size W4 wx ∧ wx.cell? ⟨A, 0, none⟩ = some (.int .i64 y) ∧ wx.cell? ⟨A, 1, none⟩ = some (.int .i64 m) ∧ wx.cell? ⟨A, 2, none⟩ = some (.int .i64 d) ∧ wx.cell? ⟨B, 0, none⟩ = some (.int .i64 p) ∧ wx.cell? ⟨B, 1, none⟩ = some (.int .i64 q) ∧ wx.cell? ⟨B, 2, none⟩ = some (.int .i64 r) ∧ wx.cell? ⟨G, 0, none⟩ = some (.int .i64 u) ∧ wx.cell? ⟨G, 1, none⟩ = some (.int .i64 v) ∧ wx.cell? ⟨G, 2, none⟩ = some (.int .i64 x) ∧ wx.cell? ⟨Z, 0, none⟩ = some (.int .i64 y) ∧ wx.cell? ⟨Z, 1, none⟩ = some (.int .i64 m) ∧ wx.cell? ⟨Z, 2, none⟩ = some (.int .i64 e)) (((try go_split_ands); refine held (cW _) ?_; repeat (first | with_reducible assumption | with_reducible exact below_thn (by assumption) (by assumption) | with_reducible refine Below.drew ?_ | with_reducible exact Below.refl _ _))) (first | ((go_at_call 11; refine (within_any _ _ _ (by omega) (by omega) (by omega) (by omega) _).mono ?_; rintro e wq ⟨rfl, hq⟩; have hq := hq.symm; subst hq; (first | rw [H1.out] | rw [H2.out] | rw [H3.out] | rw [H4.out] | rw [H5.out]))) | ((go_at_call 9; refine (interest_any _ _ _ _ _ _ _ _ _ _).mono ?_; rintro e wn ⟨rfl, bn⟩; rw [I1.out.1, I1.out.2])))
  rename_i hH; replace hB := hH.1; replace hC := hH.2; clear hH
  go_upto_region 15 with (first | (go_at_call 8; refine (days_any _ _ _ _ _ _ _ _).mono ?_; rintro e wn ⟨rfl, bn⟩; (first | rw [D1.out] | rw [D2.out] | rw [D3.out] | rw [D4.out]); rw [HP.out]; replace hB := below_then hB bn; replace hC := cW _ hB; clear bn))
  by_cases hz : i + j = 0
  · have hz' : (i + j == 0) = true := beq_iff_eq.2 hz
    clear hz
    go_wp2_with (go_at_call 3; refine (accrualRuns_any _).mono ?_; rintro e wn ⟨rfl, bn⟩; replace hB := below_then hB bn; clear bn)
    go_ret
    exact ⟨rfl, below_then bW hB⟩
  · have hz' : (i + j == 0) = false := beq_eq_false_iff_ne.2 hz
    clear hz
    go_wp2_with (go_at_call 3; refine (accrualRuns_any _).mono ?_; rintro e wn ⟨rfl, bn⟩; replace hB := below_then hB bn; clear bn)
    go_ret
    exact ⟨rfl, below_then bW hB⟩

theorem accrualAdds_any (n days more basis : Int) (_w0 : (Lit.int .i64 n).wf = true) (_w1 : (Lit.int .i64 days).wf = true) (_w2 : (Lit.int .i64 more).wf = true) (_w3 : (Lit.int .i64 basis).wf = true) (w : World) :
    Calls Try.prog 5 #[.int .i64 n, .int .i64 days, .int .i64 more, .int .i64 basis] w fun e w' => e = .returned (.bool true) ∧ Below w.heap.size w w' := by
  obtain ⟨k, h⟩ : ∃ k, 1 + basis % (2 - 1 + 1) = k := ⟨_, rfl⟩
  have g : 1 + basis % 2 = k := h
  have hk : k = 1 ∨ k = 2 := by omega
  refine adds_walk n days more basis k _ hk h rfl ?_ w
  rcases hk with rfl | rfl <;> rfl
end Go.Proofs.Ytcnnjegoejphjaa
