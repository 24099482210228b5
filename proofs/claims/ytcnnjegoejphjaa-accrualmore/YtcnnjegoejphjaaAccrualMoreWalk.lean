/-
  The walk of AccrualMore.
-/
import Derived.Test.YtcnnjegoejphjaaAccrualRunsWalk
import Derived.Test.YtcnnjegoejphjaaAcc2
import Derived.Test.YtcnnjegoejphjaaBook
namespace Go.Proofs.Ytcnnjegoejphjaa
open Go.RowKit

theorem more_facts (b g t s N k y m d p q r u v x : Int) (b0 : 0 ≤ b) (b1 : b ≤ 274877906944) (g0 : 0 ≤ g) (g1 : g ≤ 274877906944) (t0 : 0 ≤ t) (t1 : t ≤ 2500) (s0 : 0 ≤ s) (s1 : s ≤ 2500) (k0 : 0 ≤ k) (k1 : k ≤ 400)
    (ha : Cal.rightB y m d = true) (na : Cal.num y m d = N) (hz : Cal.rightB p q r = true) (nz : Cal.num p q r = N + k) (hm : Cal.rightB u v x = true) (nm : Cal.num u v x = N + k + 1) :
    ∃ X Y Z W D, (Acc.intB b t 2 y m d p q r = true ∧ Acc.intV b t 2 y m d p q r = X) ∧ (Acc.intB (b + g) t 2 y m d p q r = true ∧ Acc.intV (b + g) t 2 y m d p q r = Y) ∧ (Acc.intB b (t + s) 2 y m d p q r = true ∧ Acc.intV b (t + s) 2 y m d p q r = Z) ∧
      (Acc.intB b t 2 y m d u v x = true ∧ Acc.intV b t 2 y m d u v x = W) ∧ (Acc.intB (2 * b) t 2 y m d p q r = true ∧ Acc.intV (2 * b) t 2 y m d p q r = D) ∧
      X ≤ Y ∧ X ≤ Z ∧ X ≤ W ∧ 2 * X - 1 ≤ D ∧ D ≤ 2 * X + 1 ∧ 0 ≤ X ∧ X ≤ 1152921504606846977 := by
  have o1 := Acc.okB_mk ha hz (by omega)
  have o2 := Acc.okB_mk ha hm (by omega)
  have a1 := Acc.mul3_le b t k 274877906944 2500 400 b0 t0 k0 b1 t1 k1
  have a2 := Acc.mul3_le (b + g) t k 549755813888 2500 400 (by omega) t0 k0 (by omega) t1 k1
  have a3 := Acc.mul3_le b (t + s) k 274877906944 5000 400 b0 (by omega) k0 b1 (by omega) k1
  have a4 := Acc.mul3_le b t (k + 1) 274877906944 2500 401 b0 t0 (by omega) b1 t1 (by omega)
  have a5 := Acc.mul3_le (2 * b) t k 549755813888 2500 400 (by omega) t0 k0 (by omega) t1 k1
  have m2 := Acc.mul3_le b t k (b + g) t k b0 t0 k0 (by omega) (by omega) (by omega)
  have m3 := Acc.mul3_le b t k b (t + s) k b0 t0 k0 (by omega) (by omega) (by omega)
  have m4 := Acc.mul3_le b t k b t (k + 1) b0 t0 k0 (by omega) (by omega) (by omega)
  have e1 := Acc.bear (k := 2) (Or.inr rfl) o1 (D := k) (by omega) b0 (by omega) t0 (by omega) rfl (by omega)
  have e2 := Acc.bear (k := 2) (Or.inr rfl) o1 (D := k) (b := b + g) (by omega) (by omega) (by omega) t0 (by omega) rfl (by omega)
  have e3 := Acc.bear (k := 2) (Or.inr rfl) o1 (D := k) (t := t + s) (by omega) b0 (by omega) (by omega) (by omega) rfl (by omega)
  have e4 := Acc.bear (k := 2) (Or.inr rfl) o2 (D := k + 1) (by omega) b0 (by omega) t0 (by omega) rfl (by omega)
  have e5 := Acc.bear (k := 2) (Or.inr rfl) o1 (D := k) (b := 2 * b) (by omega) (by omega) (by omega) t0 (by omega) rfl (by omega)
  have hp := Acc.per_bd 2
  have h2 := Acc.half_mono _ _ (10000 * Acc.per 2) (by omega) m2
  have h3 := Acc.half_mono _ _ (10000 * Acc.per 2) (by omega) m3
  have h4 := Acc.half_mono _ _ (10000 * Acc.per 2) (by omega) m4
  have h5 := Acc.half_sum (b * (t * k)) (b * (t * k)) (10000 * Acc.per 2) (by omega)
  rw [show b * (t * k) + b * (t * k) = 2 * b * (t * k) by rw [Int.mul_assoc]; omega] at h5
  have hb := Acc.half_bd _ (10000 * Acc.per 2) (by omega) e1.2.2 (by omega)
  exact ⟨_, _, _, _, _, ⟨e1.1, e1.2.1⟩, ⟨e2.1, e2.2.1⟩, ⟨e3.1, e3.2.1⟩, ⟨e4.1, e4.2.1⟩, ⟨e5.1, e5.2.1⟩, h2, h3, h4, by omega, by omega, hb.1, hb.2⟩

set_option maxRecDepth 100000 in
set_option maxHeartbeats 4000000 in
theorem accrualMore_any (balance more rate up n days : Int) (_w0 : (Lit.int .i64 balance).wf = true) (_w1 : (Lit.int .i64 more).wf = true) (_w2 : (Lit.int .i64 rate).wf = true) (_w3 : (Lit.int .i64 up).wf = true) (_w4 : (Lit.int .i64 n).wf = true) (_w5 : (Lit.int .i64 days).wf = true) (w : World) :
    Calls Try.prog 6 #[.int .i64 balance, .int .i64 more, .int .i64 rate, .int .i64 up, .int .i64 n, .int .i64 days] w fun e w' => e = .returned (.bool true) ∧ Below w.heap.size w w' := by
  obtain ⟨b, h1⟩ : ∃ b, 0 + balance % (274877906944 - 0 + 1) = b := ⟨_, rfl⟩
  obtain ⟨g, h2⟩ : ∃ b, 0 + more % (274877906944 - 0 + 1) = b := ⟨_, rfl⟩
  obtain ⟨t, h3⟩ : ∃ b, 0 + rate % (2500 - 0 + 1) = b := ⟨_, rfl⟩
  obtain ⟨s, h4⟩ : ∃ b, 0 + up % (2500 - 0 + 1) = b := ⟨_, rfl⟩
  obtain ⟨N, h5⟩ : ∃ b, 0 + n % (3000000 - 0 + 1) = b := ⟨_, rfl⟩
  obtain ⟨k, h6⟩ : ∃ b, 0 + days % (400 - 0 + 1) = b := ⟨_, rfl⟩
  have g1 : 0 + balance % 274877906945 = b := h1
  have g2 : 0 + more % 274877906945 = g := h2
  have g3 : 0 + rate % 2501 = t := h3
  have g4 : 0 + up % 2501 = s := h4
  have g5 : 0 + n % 3000001 = N := h5
  have g6 : 0 + days % 401 = k := h6
  have k0 : 0 ≤ k := by omega
  have k1 : k ≤ 400 := by omega
  have b0 : 0 ≤ b := by omega
  have b1 : b ≤ 274877906944 := by omega
  have c0 : 0 ≤ g := by omega
  have c1 : g ≤ 274877906944 := by omega
  have t0 : 0 ≤ t := by omega
  have t1 : t ≤ 2500 := by omega
  have s0 : 0 ≤ s := by omega
  have s1 : s ≤ 2500 := by omega
  have n0 : 0 ≤ N := by omega
  have n1 : N ≤ 3000000 := by omega
  have H1 : Hid (0 + balance % (274877906944 - 0 + 1) = b) := h1
  have H2 : Hid (0 + more % (274877906944 - 0 + 1) = g) := h2
  have H3 : Hid (0 + rate % (2500 - 0 + 1) = t) := h3
  have H4 : Hid (0 + up % (2500 - 0 + 1) = s) := h4
  have H5 : Hid (0 + n % (3000000 - 0 + 1) = N) := h5
  have H6 : Hid (0 + days % (400 - 0 + 1) = k) := h6
  obtain ⟨y, m, d, ha, na⟩ := Acc.date_at N n0 (by omega)
  obtain ⟨p, q, r, hz, nz⟩ := Acc.date_at (N + k) (by omega) (by omega)
  obtain ⟨u, v, x, hm, nm⟩ := Acc.date_at (N + k + 1) (by omega) (by omega)
  have DA : Hid (Cal.rightB y m d = true ∧ Cal.num y m d = N) := ⟨ha, na⟩
  have DZ : Hid (Cal.rightB p q r = true ∧ Cal.num p q r = N + k) := ⟨hz, nz⟩
  have DM : Hid (Cal.rightB u v x = true ∧ Cal.num u v x = N + k + 1) := ⟨hm, nm⟩
  obtain ⟨X, Y, ZZ, WW, DD, f1, f2, f3, f4, f5, q2, q3, q4, q5, q6, x0, x1⟩ := more_facts b g t s N k y m d p q r u v x b0 b1 c0 c1 t0 t1 s0 s1 k0 k1 ha na hz nz hm nm
  have I1 : Hid (Acc.intV b t 2 y m d p q r = X ∧ Acc.intB b t 2 y m d p q r = true) := ⟨f1.2, f1.1⟩
  have I2 : Hid (Acc.intV (b + g) t 2 y m d p q r = Y ∧ Acc.intB (b + g) t 2 y m d p q r = true) := ⟨f2.2, f2.1⟩
  have I3 : Hid (Acc.intV b (t + s) 2 y m d p q r = ZZ ∧ Acc.intB b (t + s) 2 y m d p q r = true) := ⟨f3.2, f3.1⟩
  have I4 : Hid (Acc.intV b t 2 y m d u v x = WW ∧ Acc.intB b t 2 y m d u v x = true) := ⟨f4.2, f4.1⟩
  have I5 : Hid (Acc.intV (2 * b) t 2 y m d p q r = DD ∧ Acc.intB (2 * b) t 2 y m d p q r = true) := ⟨f5.2, f5.1⟩
  have i6 := Acc.int_out (b := b) (t := 5001) (k := 2) (y := y) (m := m) (d := d) (p := p) (q := q) (r := r) (Or.inr (by omega))
  have i7 := Acc.int_out (b := b) (t := -1) (k := 2) (y := y) (m := m) (d := d) (p := p) (q := q) (r := r) (Or.inl (by omega))
  have I6 : Hid (Acc.intV b 5001 2 y m d p q r = 0 ∧ Acc.intB b 5001 2 y m d p q r = false) := ⟨i6.2, i6.1⟩
  have I7 : Hid (Acc.intV b (-1) 2 y m d p q r = 0 ∧ Acc.intB b (-1) 2 y m d p q r = false) := ⟨i7.2, i7.1⟩
  clear h1 h2 h3 h4 h5 h6 g1 g2 g3 g4 g5 g6 ha na hz nz hm nm f1 f2 f3 f4 f5 i6 i7 _w0 _w1 _w2 _w3 _w4 _w5
  go_enter Try.func6, Try.ntmps6
  go_upto_region 3 with (first
    | (go_at_call 11; refine (within_any _ _ _ (by omega) (by omega) (by omega) (by omega) _).mono ?_; rintro e wq ⟨rfl, hq⟩; have hq := hq.symm; subst hq; (first | rw [H1.out] | rw [H2.out] | rw [H3.out] | rw [H4.out] | rw [H5.out] | rw [H6.out]))
    | (go_at_call 14; refine (of_num y m d N _ DA.out.1 DA.out.2).mono ?_; rintro e w1 ⟨rfl, q1⟩))
  refine wp_letter (fun wx => Below w.heap.size w wx ∧ ∃ A, w1.heap.size = A ∧ wx.cell? ⟨A, 0, none⟩ = some (.int .i64 y) ∧ wx.cell? ⟨A, 1, none⟩ = some (.int .i64 m) ∧ wx.cell? ⟨A, 2, none⟩ = some (.int .i64 d)) ?_ ?_
  · exact ⟨below_alloc q1 _, _, rfl, by simp⟩
  rintro W1 ⟨bW, A, eA, hC⟩
  rw [eA]
  clear eA q1
  have cW : ∀ wx, Below W1.heap.size W1 wx → wx.cell? ⟨A, 0, none⟩ = some (.int .i64 y) ∧ wx.cell? ⟨A, 1, none⟩ = some (.int .i64 m) ∧ wx.cell? ⟨A, 2, none⟩ = some (.int .i64 d) := by
    obtain ⟨c1, c2, c3⟩ := hC
    exact fun wx b => ⟨cell_keep b c1, cell_keep b c2, cell_keep b c3⟩
  have hB : Below W1.heap.size W1 W1 := Below.refl _ _
  go_upto_region 4 with (first
    | (go_at_call 11; refine (within_any _ _ _ (by omega) (by omega) (by omega) (by omega) _).mono ?_; rintro e wq ⟨rfl, hq⟩; have hq := hq.symm; subst hq; (first | rw [H1.out] | rw [H2.out] | rw [H3.out] | rw [H4.out] | rw [H5.out] | rw [H6.out]))
    | (go_at_call 15; refine (number_any _ _ _ _).mono ?_; rintro e wn ⟨rfl, bn⟩; rw [DA.out.2]; replace hB := below_then hB bn; replace hC := cW _ hB; clear bn)
    | (go_at_call 14; refine (of_num p q r (N + k) _ DZ.out.1 DZ.out.2).mono ?_; rintro e wz ⟨rfl, bn⟩; replace hB := below_then hB bn; replace hC := cW _ hB; clear bn))
  refine wp_letter (fun wx => Below w.heap.size w wx ∧ ∃ Z, wz.heap.size = Z ∧ wx.cell? ⟨A, 0, none⟩ = some (.int .i64 y) ∧ wx.cell? ⟨A, 1, none⟩ = some (.int .i64 m) ∧ wx.cell? ⟨A, 2, none⟩ = some (.int .i64 d) ∧ wx.cell? ⟨Z, 0, none⟩ = some (.int .i64 p) ∧ wx.cell? ⟨Z, 1, none⟩ = some (.int .i64 q) ∧ wx.cell? ⟨Z, 2, none⟩ = some (.int .i64 r)) ?_ ?_
  · have b2 := below_alloc (Below.refl wz.heap.size wz) (.cells #[.int .i64 p, .int .i64 q, .int .i64 r] 23)
    obtain ⟨c1, c2, c3⟩ := hC
    exact ⟨below_alloc (below_then bW hB) _, _, rfl, cell_keep b2 c1, cell_keep b2 c2, cell_keep b2 c3, by simp⟩
  clear bW hB hC cW
  rintro W2 ⟨bW, Z, eZ, hC⟩
  rw [eZ]
  clear eZ
  have cW : ∀ wx, Below W2.heap.size W2 wx → wx.cell? ⟨A, 0, none⟩ = some (.int .i64 y) ∧ wx.cell? ⟨A, 1, none⟩ = some (.int .i64 m) ∧ wx.cell? ⟨A, 2, none⟩ = some (.int .i64 d) ∧ wx.cell? ⟨Z, 0, none⟩ = some (.int .i64 p) ∧ wx.cell? ⟨Z, 1, none⟩ = some (.int .i64 q) ∧ wx.cell? ⟨Z, 2, none⟩ = some (.int .i64 r) := by
    obtain ⟨c1, c2, c3, c4, c5, c6⟩ := hC
    exact fun wx b => ⟨cell_keep b c1, cell_keep b c2, cell_keep b c3, cell_keep b c4, cell_keep b c5, cell_keep b c6⟩
  have hB : Below W2.heap.size W2 W2 := Below.refl _ _
  go_upto_region 5 with (first | (go_at_call 9; refine (interest_any _ _ _ _ _ _ _ _ _ _).mono ?_; rintro e wn ⟨rfl, bn⟩; (first | rw [I1.out.1, I1.out.2] | rw [I2.out.1, I2.out.2] | rw [I3.out.1, I3.out.2] | rw [I4.out.1, I4.out.2] | rw [I5.out.1, I5.out.2] | rw [I6.out.1, I6.out.2] | rw [I7.out.1, I7.out.2]); replace hB := below_then hB bn; replace hC := cW _ hB; clear bn))
  have w5 : IntKind.i64.wrap (b + g) = b + g := wrap_in _ (by omega) (by omega)
  go_region_held3 (fun wx => Below W2.heap.size W2 wx ∧ wx.cell? ⟨A, 0, none⟩ = some (.int .i64 y) ∧ wx.cell? ⟨A, 1, none⟩ = some (.int .i64 m) ∧ wx.cell? ⟨A, 2, none⟩ = some (.int .i64 d) ∧ wx.cell? ⟨Z, 0, none⟩ = some (.int .i64 p) ∧ wx.cell? ⟨Z, 1, none⟩ = some (.int .i64 q) ∧ wx.cell? ⟨Z, 2, none⟩ = some (.int .i64 r)) (((try go_split_ands); refine held (cW _) ?_; repeat (first | with_reducible assumption | with_reducible exact below_thn (by assumption) (by assumption) | with_reducible refine Below.drew ?_ | with_reducible exact Below.refl _ _))) (first | ((go_at_call 11; refine (within_any _ _ _ (by omega) (by omega) (by omega) (by omega) _).mono ?_; rintro e wq ⟨rfl, hq⟩; have hq := hq.symm; subst hq; (first | rw [H1.out] | rw [H2.out] | rw [H3.out] | rw [H4.out] | rw [H5.out] | rw [H6.out]))) | ((go_at_call 9; refine (interest_any _ _ _ _ _ _ _ _ _ _).mono ?_; rintro e wn ⟨rfl, bn⟩; (first | rw [I1.out.1, I1.out.2] | rw [I2.out.1, I2.out.2] | rw [I3.out.1, I3.out.2] | rw [I4.out.1, I4.out.2] | rw [I5.out.1, I5.out.2] | rw [I6.out.1, I6.out.2] | rw [I7.out.1, I7.out.2]))))
  rename_i hH; replace hB := hH.1; replace hC := hH.2; clear hH
  clear w5
  go_upto_region 6 with fail
  have w6 : IntKind.i64.wrap (t + s) = t + s := wrap_in _ (by omega) (by omega)
  go_region_held3 (fun wx => Below W2.heap.size W2 wx ∧ wx.cell? ⟨A, 0, none⟩ = some (.int .i64 y) ∧ wx.cell? ⟨A, 1, none⟩ = some (.int .i64 m) ∧ wx.cell? ⟨A, 2, none⟩ = some (.int .i64 d) ∧ wx.cell? ⟨Z, 0, none⟩ = some (.int .i64 p) ∧ wx.cell? ⟨Z, 1, none⟩ = some (.int .i64 q) ∧ wx.cell? ⟨Z, 2, none⟩ = some (.int .i64 r)) (((try go_split_ands); refine held (cW _) ?_; repeat (first | with_reducible assumption | with_reducible exact below_thn (by assumption) (by assumption) | with_reducible refine Below.drew ?_ | with_reducible exact Below.refl _ _))) (first | ((go_at_call 11; refine (within_any _ _ _ (by omega) (by omega) (by omega) (by omega) _).mono ?_; rintro e wq ⟨rfl, hq⟩; have hq := hq.symm; subst hq; (first | rw [H1.out] | rw [H2.out] | rw [H3.out] | rw [H4.out] | rw [H5.out] | rw [H6.out]))) | ((go_at_call 9; refine (interest_any _ _ _ _ _ _ _ _ _ _).mono ?_; rintro e wn ⟨rfl, bn⟩; (first | rw [I1.out.1, I1.out.2] | rw [I2.out.1, I2.out.2] | rw [I3.out.1, I3.out.2] | rw [I4.out.1, I4.out.2] | rw [I5.out.1, I5.out.2] | rw [I6.out.1, I6.out.2] | rw [I7.out.1, I7.out.2]))))
  rename_i hH; replace hB := hH.1; replace hC := hH.2; clear hH
  clear w6
  go_upto_region 7 with fail
  have w7 : IntKind.i64.wrap (N + k + 1) = N + k + 1 := wrap_in _ (by omega) (by omega)
  go_region_held3 (fun wx => Below W2.heap.size W2 wx ∧ wx.cell? ⟨A, 0, none⟩ = some (.int .i64 y) ∧ wx.cell? ⟨A, 1, none⟩ = some (.int .i64 m) ∧ wx.cell? ⟨A, 2, none⟩ = some (.int .i64 d) ∧ wx.cell? ⟨Z, 0, none⟩ = some (.int .i64 p) ∧ wx.cell? ⟨Z, 1, none⟩ = some (.int .i64 q) ∧ wx.cell? ⟨Z, 2, none⟩ = some (.int .i64 r)) (((try go_split_ands); refine held (cW _) ?_; repeat (first | with_reducible assumption | with_reducible exact below_thn (by assumption) (by assumption) | with_reducible refine Below.drew ?_ | with_reducible exact Below.refl _ _))) (first
    | ((go_at_call 15; refine (number_any _ _ _ _).mono ?_; rintro e wn ⟨rfl, bn⟩; rw [DZ.out.2]))
    | ((go_at_call 14; refine (of_num u v x (N + k + 1) _ DM.out.1 DM.out.2).mono ?_; rintro e wn ⟨rfl, bn⟩))
    | ((go_at_call 9; refine (interest_any _ _ _ _ _ _ _ _ _ _).mono ?_; rintro e wn ⟨rfl, bn⟩; (first | rw [I1.out.1, I1.out.2] | rw [I2.out.1, I2.out.2] | rw [I3.out.1, I3.out.2] | rw [I4.out.1, I4.out.2] | rw [I5.out.1, I5.out.2] | rw [I6.out.1, I6.out.2] | rw [I7.out.1, I7.out.2]))))
  rename_i hH; replace hB := hH.1; replace hC := hH.2; clear hH
  clear w7
  go_upto_region 11 with (first | (go_at_call 9; refine (interest_any _ _ _ _ _ _ _ _ _ _).mono ?_; rintro e wn ⟨rfl, bn⟩; (first | rw [I1.out.1, I1.out.2] | rw [I2.out.1, I2.out.2] | rw [I3.out.1, I3.out.2] | rw [I4.out.1, I4.out.2] | rw [I5.out.1, I5.out.2] | rw [I6.out.1, I6.out.2] | rw [I7.out.1, I7.out.2]); replace hB := below_then hB bn; replace hC := cW _ hB; clear bn))
  go_wp2_with (go_at_call 3; refine (accrualRuns_any _).mono ?_; rintro e wn ⟨rfl, bn⟩; replace hB := below_then hB bn; clear bn)
  go_ret
  exact ⟨rfl, below_then bW hB⟩
end Go.Proofs.Ytcnnjegoejphjaa
