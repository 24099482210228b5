/-
  The walk of AccrualSplit.
-/
import Derived.Test.YtcnnjegoejphjaaAccrualRunsWalk
import Derived.Test.YtcnnjegoejphjaaAcc2
import Derived.Test.YtcnnjegoejphjaaBook
namespace Go.Proofs.Ytcnnjegoejphjaa
open Go.RowKit

theorem split_facts (b c t N k j y m d p q r u v x : Int) (b0 : 0 ≤ b) (b1 : b ≤ 274877906944) (c0 : 0 ≤ c) (c1 : c ≤ 274877906944) (t0 : 0 ≤ t) (t1 : t ≤ 5000) (k1 : k ≤ 400) (j0 : 0 ≤ j) (j1 : j ≤ k)
    (ha : Cal.rightB y m d = true) (na : Cal.num y m d = N) (hz : Cal.rightB p q r = true) (nz : Cal.num p q r = N + k) (hm : Cal.rightB u v x = true) (nm : Cal.num u v x = N + j) :
    ∃ X U V W Y, (Acc.intB b t 1 y m d p q r = true ∧ Acc.intV b t 1 y m d p q r = X) ∧ (Acc.intB b t 1 y m d u v x = true ∧ Acc.intV b t 1 y m d u v x = U) ∧ (Acc.intB b t 1 u v x p q r = true ∧ Acc.intV b t 1 u v x p q r = V) ∧
      (Acc.intB c t 1 y m d p q r = true ∧ Acc.intV c t 1 y m d p q r = W) ∧ (Acc.intB (b + c) t 1 y m d p q r = true ∧ Acc.intV (b + c) t 1 y m d p q r = Y) ∧
      -1 ≤ U + V - X ∧ U + V - X ≤ 1 ∧ -1 ≤ X + W - Y ∧ X + W - Y ≤ 1 ∧
      (0 ≤ X ∧ X ≤ 1152921504606846977) ∧ (0 ≤ U ∧ U ≤ 1152921504606846977) ∧ (0 ≤ V ∧ V ≤ 1152921504606846977) ∧ (0 ≤ W ∧ W ≤ 1152921504606846977) ∧ (0 ≤ Y ∧ Y ≤ 1152921504606846977) := by
  have o1 := Acc.okB_mk ha hz (by omega)
  have o2 := Acc.okB_mk ha hm (by omega)
  have o3 := Acc.okB_mk hm hz (by omega)
  have g1 := Acc.mul3_le b t k 274877906944 5000 400 b0 t0 (by omega) b1 t1 k1
  have g2 := Acc.mul3_le b t j 274877906944 5000 400 b0 t0 j0 b1 t1 (by omega)
  have g3 := Acc.mul3_le b t (k - j) 274877906944 5000 400 b0 t0 (by omega) b1 t1 (by omega)
  have g4 := Acc.mul3_le c t k 274877906944 5000 400 c0 t0 (by omega) c1 t1 k1
  have g5 := Acc.mul3_le (b + c) t k 549755813888 5000 400 (by omega) t0 (by omega) (by omega) t1 k1
  have e1 := Acc.bear (k := 1) (Or.inl rfl) o1 (D := k) (by omega) b0 (by omega) t0 t1 rfl (by omega)
  have e2 := Acc.bear (k := 1) (Or.inl rfl) o2 (D := j) (by omega) b0 (by omega) t0 t1 rfl (by omega)
  have e3 := Acc.bear (k := 1) (Or.inl rfl) o3 (D := k - j) (by omega) b0 (by omega) t0 t1 rfl (by omega)
  have e4 := Acc.bear (k := 1) (Or.inl rfl) o1 (D := k) (by omega) c0 (by omega) t0 t1 rfl (by omega)
  have e5 := Acc.bear (k := 1) (Or.inl rfl) o1 (D := k) (b := b + c) (by omega) (by omega) (by omega) t0 t1 rfl (by omega)
  have hp := Acc.per_bd 1
  have s1 := Acc.half_sum (b * (t * j)) (b * (t * (k - j))) (10000 * Acc.per 1) (by omega)
  have s2 := Acc.half_sum (b * (t * k)) (c * (t * k)) (10000 * Acc.per 1) (by omega)
  rw [← Int.mul_add, ← Int.mul_add, show j + (k - j) = k by omega] at s1
  rw [← Int.add_mul] at s2
  refine ⟨_, _, _, _, _, ⟨e1.1, e1.2.1⟩, ⟨e2.1, e2.2.1⟩, ⟨e3.1, e3.2.1⟩, ⟨e4.1, e4.2.1⟩, ⟨e5.1, e5.2.1⟩, s1.1, s1.2, s2.1, s2.2, ?_, ?_, ?_, ?_, ?_⟩
  · exact Acc.half_bd _ _ (by omega) e1.2.2 (by omega)
  · exact Acc.half_bd _ _ (by omega) e2.2.2 (by omega)
  · exact Acc.half_bd _ _ (by omega) e3.2.2 (by omega)
  · exact Acc.half_bd _ _ (by omega) e4.2.2 (by omega)
  · exact Acc.half_bd _ _ (by omega) e5.2.2 (by omega)

set_option maxRecDepth 100000 in
set_option maxHeartbeats 2000000 in
theorem accrualSplit_any (balance more rate n days cut : Int) (_w0 : (Lit.int .i64 balance).wf = true) (_w1 : (Lit.int .i64 more).wf = true) (_w2 : (Lit.int .i64 rate).wf = true) (_w3 : (Lit.int .i64 n).wf = true) (_w4 : (Lit.int .i64 days).wf = true) (_w5 : (Lit.int .i64 cut).wf = true) (w : World) :
    Calls Try.prog 7 #[.int .i64 balance, .int .i64 more, .int .i64 rate, .int .i64 n, .int .i64 days, .int .i64 cut] w fun e w' => e = .returned (.bool true) ∧ Below w.heap.size w w' := by
  obtain ⟨b, h1⟩ : ∃ b, 0 + balance % (274877906944 - 0 + 1) = b := ⟨_, rfl⟩
  obtain ⟨c, h2⟩ : ∃ b, 0 + more % (274877906944 - 0 + 1) = b := ⟨_, rfl⟩
  obtain ⟨t, h3⟩ : ∃ b, 0 + rate % (5000 - 0 + 1) = b := ⟨_, rfl⟩
  obtain ⟨N, h4⟩ : ∃ b, 0 + n % (3000000 - 0 + 1) = b := ⟨_, rfl⟩
  obtain ⟨k, h5⟩ : ∃ b, 0 + days % (400 - 0 + 1) = b := ⟨_, rfl⟩
  obtain ⟨j, h6⟩ : ∃ b, 0 + cut % (k - 0 + 1) = b := ⟨_, rfl⟩
  have g1 : 0 + balance % 274877906945 = b := h1
  have g2 : 0 + more % 274877906945 = c := h2
  have g3 : 0 + rate % 5001 = t := h3
  have g4 : 0 + n % 3000001 = N := h4
  have g5 : 0 + days % 401 = k := h5
  have k0 : 0 ≤ k := by omega
  have k1 : k ≤ 400 := by omega
  have j0 : 0 ≤ j := by have := Int.emod_nonneg cut (b := k - 0 + 1) (by omega); omega
  have j1 : j ≤ k := by have := Int.emod_lt_of_pos cut (b := k - 0 + 1) (by omega); omega
  have b0 : 0 ≤ b := by omega
  have b1 : b ≤ 274877906944 := by omega
  have c0 : 0 ≤ c := by omega
  have c1 : c ≤ 274877906944 := by omega
  have t0 : 0 ≤ t := by omega
  have t1 : t ≤ 5000 := by omega
  have n0 : 0 ≤ N := by omega
  have n1 : N ≤ 3000000 := by omega
  have H1 : Hid (0 + balance % (274877906944 - 0 + 1) = b) := h1
  have H2 : Hid (0 + more % (274877906944 - 0 + 1) = c) := h2
  have H3 : Hid (0 + rate % (5000 - 0 + 1) = t) := h3
  have H4 : Hid (0 + n % (3000000 - 0 + 1) = N) := h4
  have H5 : Hid (0 + days % (400 - 0 + 1) = k) := h5
  have H6 : Hid (0 + cut % (k - 0 + 1) = j) := h6
  obtain ⟨y, m, d, ha, na⟩ := Acc.date_at N n0 (by omega)
  obtain ⟨p, q, r, hz, nz⟩ := Acc.date_at (N + k) (by omega) (by omega)
  obtain ⟨u, v, x, hm, nm⟩ := Acc.date_at (N + j) (by omega) (by omega)
  have DA : Hid (Cal.rightB y m d = true ∧ Cal.num y m d = N) := ⟨ha, na⟩
  have DZ : Hid (Cal.rightB p q r = true ∧ Cal.num p q r = N + k) := ⟨hz, nz⟩
  have DM : Hid (Cal.rightB u v x = true ∧ Cal.num u v x = N + j) := ⟨hm, nm⟩
  obtain ⟨X, U, V, R, Y, f1, f2, f3, f4, f5, s1, s2, s3, s4, ⟨x0, x1⟩, ⟨u0, u1⟩, ⟨v0, v1⟩, ⟨r0, r1⟩, ⟨y0, y1⟩⟩ := split_facts b c t N k j y m d p q r u v x b0 b1 c0 c1 t0 t1 k1 j0 j1 ha na hz nz hm nm
  have I1 : Hid (Acc.intV b t 1 y m d p q r = X ∧ Acc.intB b t 1 y m d p q r = true) := ⟨f1.2, f1.1⟩
  have I2 : Hid (Acc.intV b t 1 y m d u v x = U ∧ Acc.intB b t 1 y m d u v x = true) := ⟨f2.2, f2.1⟩
  have I3 : Hid (Acc.intV b t 1 u v x p q r = V ∧ Acc.intB b t 1 u v x p q r = true) := ⟨f3.2, f3.1⟩
  have I4 : Hid (Acc.intV c t 1 y m d p q r = R ∧ Acc.intB c t 1 y m d p q r = true) := ⟨f4.2, f4.1⟩
  have I5 : Hid (Acc.intV (b + c) t 1 y m d p q r = Y ∧ Acc.intB (b + c) t 1 y m d p q r = true) := ⟨f5.2, f5.1⟩
  clear h1 h2 h3 h4 h5 h6 g1 g2 g3 g4 g5 ha na hz nz hm nm f1 f2 f3 f4 f5 _w0 _w1 _w2 _w3 _w4 _w5
  go_enter Try.func7, Try.ntmps7
  go_upto_region 3 with (first
    | (go_at_call 11; refine (within_any _ _ _ (by omega) (by omega) (by omega) (by omega) _).mono ?_; rintro e wq ⟨rfl, hq⟩; have hq := hq.symm; subst hq; (first | rw [H1.out] | rw [H2.out] | rw [H3.out] | rw [H4.out] | rw [H5.out] | rw [H6.out]))
    | (go_at_call 14; refine (of_num y m d N _ DA.out.1 DA.out.2).mono ?_; rintro e w1 ⟨rfl, q1⟩))
  refine wp_letter (fun wx => Below w.heap.size w wx ∧ ∃ A, w1.heap.size = A ∧ wx.cell? ⟨A, 0, none⟩ = some (.int .i64 y) ∧ wx.cell? ⟨A, 1, none⟩ = some (.int .i64 m) ∧ wx.cell? ⟨A, 2, none⟩ = some (.int .i64 d)) ?_ ?_
  · exact ⟨below_alloc q1 _, _, rfl, by simp⟩
  rintro W1 ⟨bW, A, eA, hC⟩
  rw [eA]
  clear eA q1
  have cW : ∀ wx, Below W1.heap.size W1 wx → wx.cell? ⟨A, 0, none⟩ = some (.int .i64 y) ∧ wx.cell? ⟨A, 1, none⟩ = some (.int .i64 m) ∧ wx.cell? ⟨A, 2, none⟩ = some (.int .i64 d) := by
    obtain ⟨c1, c2, c3⟩ := hC
    exact fun wx b => ⟨cell_keep b c1, cell_keep b c2, cell_keep b c3⟩
  have hB : Below W1.heap.size W1 W1 := Below.refl _ _
  go_upto_region 5 with (first
    | (go_at_call 11; refine (within_any _ _ _ (by omega) (by omega) (by omega) (by omega) _).mono ?_; rintro e wq ⟨rfl, hq⟩; have hq := hq.symm; subst hq; (first | rw [H1.out] | rw [H2.out] | rw [H3.out] | rw [H4.out] | rw [H5.out] | rw [H6.out]))
    | (go_at_call 15; refine (number_any _ _ _ _).mono ?_; rintro e wn ⟨rfl, bn⟩; rw [DA.out.2]; replace hB := below_then hB bn; replace hC := cW _ hB; clear bn)
    | (go_at_call 14; refine (of_num p q r (N + k) _ DZ.out.1 DZ.out.2).mono ?_; rintro e wz ⟨rfl, bn⟩; replace hB := below_then hB bn; replace hC := cW _ hB; clear bn))
  refine wp_letter (fun wx => Below w.heap.size w wx ∧ ∃ Z, wz.heap.size = Z ∧ wx.cell? ⟨A, 0, none⟩ = some (.int .i64 y) ∧ wx.cell? ⟨A, 1, none⟩ = some (.int .i64 m) ∧ wx.cell? ⟨A, 2, none⟩ = some (.int .i64 d) ∧ wx.cell? ⟨Z, 0, none⟩ = some (.int .i64 p) ∧ wx.cell? ⟨Z, 1, none⟩ = some (.int .i64 q) ∧ wx.cell? ⟨Z, 2, none⟩ = some (.int .i64 r)) ?_ ?_
  · have b2 := below_alloc (Below.refl wz.heap.size wz) (.cells #[.int .i64 p, .int .i64 q, .int .i64 r] 23)
    obtain ⟨c1, c2, c3⟩ := hC
    exact ⟨below_alloc (below_then bW hB) _, _, rfl, cell_keep b2 c1, cell_keep b2 c2, cell_keep b2 c3, by simp⟩
  clear bW hB hC cW
  rintro W2 ⟨bW, Z, eZ, hC⟩
  rw [eZ]
  clear eZ
  have cW : ∀ wx, Below W2.heap.size W2 wx → wx.cell? ⟨A, 0, none⟩ = some (.int .i64 y) ∧ wx.cell? ⟨A, 1, none⟩ = some (.int .i64 m) ∧ wx.cell? ⟨A, 2, none⟩ = some (.int .i64 d) ∧ wx.cell? ⟨Z, 0, none⟩ = some (.int .i64 p) ∧ wx.cell? ⟨Z, 1, none⟩ = some (.int .i64 q) ∧ wx.cell? ⟨Z, 2, none⟩ = some (.int .i64 r) := by
    obtain ⟨c1, c2, c3, c4, c5, c6⟩ := hC
    exact fun wx b => ⟨cell_keep b c1, cell_keep b c2, cell_keep b c3, cell_keep b c4, cell_keep b c5, cell_keep b c6⟩
  have hB : Below W2.heap.size W2 W2 := Below.refl _ _
  go_upto_region 6 with (first
    | (go_at_call 11; refine (within_any _ _ _ (by omega) (by omega) (by omega) (by omega) _).mono ?_; rintro e wq ⟨rfl, hq⟩; have hq := hq.symm; subst hq; (first | rw [H1.out] | rw [H2.out] | rw [H3.out] | rw [H4.out] | rw [H5.out] | rw [H6.out]))
    | (go_at_call 15; refine (number_any _ _ _ _).mono ?_; rintro e wn ⟨rfl, bn⟩; rw [DA.out.2]; replace hB := below_then hB bn; replace hC := cW _ hB; clear bn)
    | (go_at_call 14; refine (of_num u v x (N + j) _ DM.out.1 DM.out.2).mono ?_; rintro e wz ⟨rfl, bn⟩; replace hB := below_then hB bn; replace hC := cW _ hB; clear bn))
  refine wp_letter (fun wx => Below w.heap.size w wx ∧ ∃ M, wz.heap.size = M ∧ wx.cell? ⟨A, 0, none⟩ = some (.int .i64 y) ∧ wx.cell? ⟨A, 1, none⟩ = some (.int .i64 m) ∧ wx.cell? ⟨A, 2, none⟩ = some (.int .i64 d) ∧ wx.cell? ⟨Z, 0, none⟩ = some (.int .i64 p) ∧ wx.cell? ⟨Z, 1, none⟩ = some (.int .i64 q) ∧ wx.cell? ⟨Z, 2, none⟩ = some (.int .i64 r) ∧ wx.cell? ⟨M, 0, none⟩ = some (.int .i64 u) ∧ wx.cell? ⟨M, 1, none⟩ = some (.int .i64 v) ∧ wx.cell? ⟨M, 2, none⟩ = some (.int .i64 x)) ?_ ?_
  · have b2 := below_alloc (Below.refl wz.heap.size wz) (.cells #[.int .i64 u, .int .i64 v, .int .i64 x] 23)
    obtain ⟨c1, c2, c3, c4, c5, c6⟩ := hC
    exact ⟨below_alloc (below_then bW hB) _, _, rfl, cell_keep b2 c1, cell_keep b2 c2, cell_keep b2 c3, cell_keep b2 c4, cell_keep b2 c5, cell_keep b2 c6, by simp⟩
  clear bW hB hC cW
  rintro W3 ⟨bW, M, eM, hC⟩
  rw [eM]
  clear eM
  have cW : ∀ wx, Below W3.heap.size W3 wx → wx.cell? ⟨A, 0, none⟩ = some (.int .i64 y) ∧ wx.cell? ⟨A, 1, none⟩ = some (.int .i64 m) ∧ wx.cell? ⟨A, 2, none⟩ = some (.int .i64 d) ∧ wx.cell? ⟨Z, 0, none⟩ = some (.int .i64 p) ∧ wx.cell? ⟨Z, 1, none⟩ = some (.int .i64 q) ∧ wx.cell? ⟨Z, 2, none⟩ = some (.int .i64 r) ∧ wx.cell? ⟨M, 0, none⟩ = some (.int .i64 u) ∧ wx.cell? ⟨M, 1, none⟩ = some (.int .i64 v) ∧ wx.cell? ⟨M, 2, none⟩ = some (.int .i64 x) := by
    obtain ⟨c1, c2, c3, c4, c5, c6, c7, c8, c9⟩ := hC
    exact fun wx b => ⟨cell_keep b c1, cell_keep b c2, cell_keep b c3, cell_keep b c4, cell_keep b c5, cell_keep b c6, cell_keep b c7, cell_keep b c8, cell_keep b c9⟩
  have hB : Below W3.heap.size W3 W3 := Below.refl _ _
  go_upto_region 11 with (first | (go_at_call 9; refine (interest_any _ _ _ _ _ _ _ _ _ _).mono ?_; rintro e wn ⟨rfl, bn⟩; (first | rw [I1.out.1, I1.out.2] | rw [I2.out.1, I2.out.2] | rw [I3.out.1, I3.out.2] | rw [I4.out.1, I4.out.2] | rw [I5.out.1, I5.out.2]); replace hB := below_then hB bn; replace hC := cW _ hB; clear bn))
  go_wp2_with (go_at_call 3; refine (accrualRuns_any _).mono ?_; rintro e wn ⟨rfl, bn⟩; replace hB := below_then hB bn; clear bn)
  go_ret
  exact ⟨rfl, below_then bW hB⟩
end Go.Proofs.Ytcnnjegoejphjaa
