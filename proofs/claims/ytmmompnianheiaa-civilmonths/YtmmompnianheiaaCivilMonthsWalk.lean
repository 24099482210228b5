/-
  The walk of CivilMonths.
-/
import Derived.Test.YtmmompnianheiaaCivilRunsWalk
import Derived.Test.YtmmompnianheiaaBook
import Derived.Test.YtmmompnianheiaaCal2
namespace Go.Proofs.Ytmmompnianheiaa
open Go.RowKit

set_option maxRecDepth 100000 in
set_option maxHeartbeats 4000000 in
theorem civilMonths_any (n k j : Int) (_w0 : (Lit.int .i64 n).wf = true) (_w1 : (Lit.int .i64 k).wf = true) (_w2 : (Lit.int .i64 j).wf = true) (w : World) :
    Calls Try.prog 6 #[.int .i64 n, .int .i64 k, .int .i64 j] w fun e w' => e = .returned (.bool true) ∧ Below w.heap.size w w' := by
  go_enter Try.func6, Try.ntmps6
  go_upto_region 2 with (go_at_call 19; refine (within_any _ _ _ (by omega) (by omega) (by omega) (by omega) _).mono ?_; rintro e wq ⟨rfl, hq⟩; have hq := hq.symm; subst hq)
  obtain ⟨t, ht⟩ : ∃ t, n % 3652059 = t := ⟨_, rfl⟩
  have t0 : 0 ≤ t := by omega
  have t9 : t < 3652059 := by omega
  rw [ht]
  clear ht
  refine (of_yes t _ t0 t9).mono ?_
  rintro e w1 ⟨⟨y, m, d, rfl, r1, n1⟩, k1⟩
  have R1 : Hid (Cal.rightB y m d = true) := r1
  obtain ⟨i1, i2, i3, i4, i5, i6⟩ := Cal.right_in r1
  have i7 := (Cal.last_lo y m).2
  have i8 : d ≤ 31 := by omega
  clear r1 n1 i2 i7
  obtain ⟨a, ha⟩ : ∃ a, -2000 + k % (2000 - -2000 + 1) = a := ⟨_, rfl⟩
  have ha' : -2000 + k % 4001 = a := ha
  have a0 : -2000 ≤ a := by omega
  have a9 : a ≤ 2000 := by omega
  clear ha'
  have HA : Hid (-2000 + k % (2000 - -2000 + 1) = a) := ha
  clear ha
  have sz := Cal.shift_zero R1.out
  have SZ : Hid (Cal.shY y m d 0 = y ∧ Cal.shM y m d 0 = m ∧ Cal.shD y m d 0 = d) := sz
  clear sz
  obtain ⟨A, hA⟩ : ∃ A, 12 * y + m - 1 + a = A := ⟨_, rfl⟩
  by_cases hin : 12 ≤ A ∧ A < 120000
  · obtain ⟨A0, A9⟩ := hin
    obtain ⟨Y, M, L, D, hL, hD, s1, s2, s3, r2, Dd, eA, b1, b2, b3, nn⟩ := Cal.shift_in (k := a) R1.out (by omega) (by omega)
    have R2 : Hid (Cal.rightB Y M D = true) := r2
    obtain ⟨j1, j2, j3, j4, j5, j6⟩ := Cal.right_in r2
    have SH : Hid (Cal.shY y m d a = Y ∧ Cal.shM y m d a = M ∧ Cal.shD y m d a = D) := ⟨s1, s2, s3⟩
    have SB : Hid (Cal.shY Y M D (-a) = y ∧ Cal.shM Y M D (-a) = m ∧ Cal.shD Y M D (-a) = D) := ⟨b1, b2, b3⟩
    have HL : Hid (Cal.last Y M = L) := hL
    have HD : Hid (D = if L < d then L else d) := hD
    have NN : Hid (0 < a → Cal.num y m d ≤ Cal.num Y M D) := nn
    have EA : Hid (12 * Y + M - 1 = A) := by show _ = _; omega
    clear r2 s1 s2 s3 b1 b2 b3 hL hD nn eA j2
    go_upto_region 4 with (first
      | (go_at_call 19; refine (within_any _ _ _ (by omega) (by omega) (by omega) (by omega) _).mono ?_; rintro e wq ⟨rfl, hq⟩; have hq := hq.symm; subst hq; rw [HA.out])
      | (go_at_call 9; refine (shift_any _ _ _ _ _).mono ?_; rintro e w2 ⟨rfl, k2⟩; rw [SH.out.1, SH.out.2.1, SH.out.2.2]))
    refine wp_letter (fun wx => Below w.heap.size w wx ∧ ∃ B E, w1.heap.size = B ∧ w2.heap.size = E ∧ wx.cell? ⟨B, 0, none⟩ = some (.int .i64 y) ∧ wx.cell? ⟨B, 1, none⟩ = some (.int .i64 m) ∧ wx.cell? ⟨B, 2, none⟩ = some (.int .i64 d) ∧ wx.cell? ⟨E, 0, none⟩ = some (.int .i64 Y) ∧ wx.cell? ⟨E, 1, none⟩ = some (.int .i64 M) ∧ wx.cell? ⟨E, 2, none⟩ = some (.int .i64 D)) ?_ ?_
    · refine ⟨below_alloc (below_then (below_alloc k1 _) k2) _, _, _, rfl, rfl, ?_⟩
      have q := (Below.refl w2.heap.size w2).alloc (Nat.le_refl _) (.cells #[.int .i64 Y, .int .i64 M, .int .i64 D] 23)
      refine ⟨cell_keep q (cell_keep k2 (by simp)), cell_keep q (cell_keep k2 (by simp)), cell_keep q (cell_keep k2 (by simp)), ?_⟩
      simp
    rintro W ⟨bW, B, E, eB, eE, hC⟩
    rw [eB, eE]
    have cW : ∀ wx, Below W.heap.size W wx → wx.cell? ⟨B, 0, none⟩ = some (.int .i64 y) ∧ wx.cell? ⟨B, 1, none⟩ = some (.int .i64 m) ∧ wx.cell? ⟨B, 2, none⟩ = some (.int .i64 d) ∧ wx.cell? ⟨E, 0, none⟩ = some (.int .i64 Y) ∧ wx.cell? ⟨E, 1, none⟩ = some (.int .i64 M) ∧ wx.cell? ⟨E, 2, none⟩ = some (.int .i64 D) := by
      obtain ⟨c1, c2, c3, c4, c5, c6⟩ := hC
      exact fun wx b => ⟨cell_keep b c1, cell_keep b c2, cell_keep b c3, cell_keep b c4, cell_keep b c5, cell_keep b c6⟩
    clear eB eE hC k1 k2
    go_region_held3 (fun wx => Below W.heap.size W wx ∧ wx.cell? ⟨B, 0, none⟩ = some (.int .i64 y) ∧ wx.cell? ⟨B, 1, none⟩ = some (.int .i64 m) ∧ wx.cell? ⟨B, 2, none⟩ = some (.int .i64 d) ∧ wx.cell? ⟨E, 0, none⟩ = some (.int .i64 Y) ∧ wx.cell? ⟨E, 1, none⟩ = some (.int .i64 M) ∧ wx.cell? ⟨E, 2, none⟩ = some (.int .i64 D))
      (first
        | exact ⟨(Below.refl _ _).drew, cW _ (Below.refl _ _).drew⟩
        | (go_split_ands; have hk := below_then (by assumption : Below W.heap.size W _) (by assumption); exact ⟨hk, cW _ hk⟩))
      (first | ((go_at_call 9; refine (shift_any _ _ _ _ _).mono ?_; rintro e wn ⟨rfl, bn⟩; rw [SZ.out.1, SZ.out.2.1, SZ.out.2.2])))
    rename_i hH
    obtain ⟨hB, hC⟩ := hH
    go_upto_region 10 with (go_at_call 9; refine (shift_any _ _ _ _ _).mono ?_; rintro e w4 ⟨rfl, k4⟩; rw [SB.out.1, SB.out.2.1, SB.out.2.2])
    by_cases hLd : L < d
    · have hDL : D = L := by rw [HD.out, if_pos hLd]
      subst hDL
      clear HD
      refine wp_letter (fun wx => Below w.heap.size w wx ∧ ∃ G, w4.heap.size = G ∧ wx.cell? ⟨B, 0, none⟩ = some (.int .i64 y) ∧ wx.cell? ⟨B, 1, none⟩ = some (.int .i64 m) ∧ wx.cell? ⟨B, 2, none⟩ = some (.int .i64 d) ∧ wx.cell? ⟨E, 0, none⟩ = some (.int .i64 Y) ∧ wx.cell? ⟨E, 1, none⟩ = some (.int .i64 M) ∧ wx.cell? ⟨E, 2, none⟩ = some (.int .i64 D) ∧ wx.cell? ⟨G, 0, none⟩ = some (.int .i64 y) ∧ wx.cell? ⟨G, 1, none⟩ = some (.int .i64 m) ∧ wx.cell? ⟨G, 2, none⟩ = some (.int .i64 D)) ?_ ?_
      · refine ⟨below_alloc (below_then (below_then bW hB) k4) _, _, rfl, ?_⟩
        have q := (Below.refl w4.heap.size w4).alloc (Nat.le_refl _) (.cells #[.int .i64 y, .int .i64 m, .int .i64 D] 23)
        obtain ⟨c1, c2, c3, c4, c5, c6⟩ := hC
        refine ⟨cell_keep q (cell_keep k4 c1), cell_keep q (cell_keep k4 c2), cell_keep q (cell_keep k4 c3), cell_keep q (cell_keep k4 c4), cell_keep q (cell_keep k4 c5), cell_keep q (cell_keep k4 c6), ?_⟩
        simp
      clear cW hC
      rintro W2 ⟨bW2, G, eG, hC⟩
      rw [eG]
      have cW : ∀ wx, Below W2.heap.size W2 wx → wx.cell? ⟨B, 0, none⟩ = some (.int .i64 y) ∧ wx.cell? ⟨B, 1, none⟩ = some (.int .i64 m) ∧ wx.cell? ⟨B, 2, none⟩ = some (.int .i64 d) ∧ wx.cell? ⟨E, 0, none⟩ = some (.int .i64 Y) ∧ wx.cell? ⟨E, 1, none⟩ = some (.int .i64 M) ∧ wx.cell? ⟨E, 2, none⟩ = some (.int .i64 D) ∧ wx.cell? ⟨G, 0, none⟩ = some (.int .i64 y) ∧ wx.cell? ⟨G, 1, none⟩ = some (.int .i64 m) ∧ wx.cell? ⟨G, 2, none⟩ = some (.int .i64 D) := by
        obtain ⟨c1, c2, c3, c4, c5, c6, c7, c8, c9⟩ := hC
        exact fun wx b => ⟨cell_keep b c1, cell_keep b c2, cell_keep b c3, cell_keep b c4, cell_keep b c5, cell_keep b c6, cell_keep b c7, cell_keep b c8, cell_keep b c9⟩
      clear eG hC bW hB k4
      have hw1 : IntKind.i64.wrap (12 * Y) = 12 * Y := wrap_in _ (by omega) (by omega)
      have hw2 : IntKind.i64.wrap (12 * Y + M) = 12 * Y + M := wrap_in _ (by omega) (by omega)
      have hw3 : IntKind.i64.wrap (12 * Y + M - 1) = 12 * Y + M - 1 := wrap_in _ (by omega) (by omega)
      have hne : (12 * Y + M - 1 != A) = false := by rw [EA.out]; simp
      have hgt : decide (d < D) = false := decide_eq_false (by omega)
      go_region_held3 (fun wx => Below W2.heap.size W2 wx ∧ wx.cell? ⟨B, 0, none⟩ = some (.int .i64 y) ∧ wx.cell? ⟨B, 1, none⟩ = some (.int .i64 m) ∧ wx.cell? ⟨B, 2, none⟩ = some (.int .i64 d) ∧ wx.cell? ⟨E, 0, none⟩ = some (.int .i64 Y) ∧ wx.cell? ⟨E, 1, none⟩ = some (.int .i64 M) ∧ wx.cell? ⟨E, 2, none⟩ = some (.int .i64 D) ∧ wx.cell? ⟨G, 0, none⟩ = some (.int .i64 y) ∧ wx.cell? ⟨G, 1, none⟩ = some (.int .i64 m) ∧ wx.cell? ⟨G, 2, none⟩ = some (.int .i64 D))
        (first
          | exact ⟨(Below.refl _ _).drew, cW _ (Below.refl _ _).drew⟩
          | (go_split_ands; have hk := below_then (by assumption : Below W2.heap.size W2 _) (by assumption); exact ⟨hk, cW _ hk⟩)
          | (go_split_ands; have hk := (by assumption : Below W2.heap.size W2 _); exact ⟨hk, cW _ hk⟩))
        (first
          | ((go_at_call 16; refine (right_date _ _ _ _).mono ?_; rintro e wn ⟨rfl, bn⟩; rw [R2.out]))
          | ((go_at_call 11; refine (last_any _ _ _).mono ?_; rintro e wn ⟨rfl, rfl⟩; rw [HL.out])))
      rename_i hH
      obtain ⟨hB, hC⟩ := hH
      obtain ⟨J, hJ⟩ : ∃ J, 0 + j % (9 - 0 + 1) = J := ⟨_, rfl⟩
      have hJ' : 0 + j % 10 = J := hJ
      have J0 : 0 ≤ J := by omega
      have J9 : J ≤ 9 := by omega
      have HJ : Hid (0 + j % (9 - 0 + 1) = J) := hJ
      clear hJ hJ' hw1 hw2 hw3 hne hgt
      have FA : Hid (Cal.shY y m d (4611686018427387904 + J) = 0 ∧ Cal.shM y m d (4611686018427387904 + J) = 0 ∧ Cal.shD y m d (4611686018427387904 + J) = 0) := Cal.shift_out y m d _ (by omega)
      have FB : Hid (Cal.shY y m d (-9223372036854775808) = 0 ∧ Cal.shM y m d (-9223372036854775808) = 0 ∧ Cal.shD y m d (-9223372036854775808) = 0) := Cal.shift_out y m d _ (by omega)
      have hwj : IntKind.i64.wrap (4611686018427387904 + J) = 4611686018427387904 + J := wrap_in _ (by omega) (by omega)
      have hBs := hB.size
      go_upto_region 12 with fail
      go_region_held3 (fun wx => Below W2.heap.size W2 wx ∧ wx.cell? ⟨B, 0, none⟩ = some (.int .i64 y) ∧ wx.cell? ⟨B, 1, none⟩ = some (.int .i64 m) ∧ wx.cell? ⟨B, 2, none⟩ = some (.int .i64 d) ∧ wx.cell? ⟨E, 0, none⟩ = some (.int .i64 Y) ∧ wx.cell? ⟨E, 1, none⟩ = some (.int .i64 M) ∧ wx.cell? ⟨E, 2, none⟩ = some (.int .i64 D) ∧ wx.cell? ⟨G, 0, none⟩ = some (.int .i64 y) ∧ wx.cell? ⟨G, 1, none⟩ = some (.int .i64 m) ∧ wx.cell? ⟨G, 2, none⟩ = some (.int .i64 D))
        (first
          | exact ⟨hB.drew, cW _ hB.drew⟩
          | (go_split_ands; refine held (cW _) ?_; first | assumption | exact below_thn (by assumption) (by assumption) | exact below_alloc (by assumption) _ | exact below_set3 (by assumption) (by first | omega | (simp; omega))))
        (first
          | ((go_at_call 19; refine (within_any _ _ _ (by omega) (by omega) (by omega) (by omega) _).mono ?_; rintro e wj ⟨rfl, hq⟩; have hq := hq.symm; subst hq; rw [HJ.out]))
          | ((go_at_call 9; refine (shift_any _ _ _ _ _).mono ?_; rintro e wj ⟨rfl, bj⟩; rw [FA.out.1, FA.out.2.1, FA.out.2.2]; obtain ⟨hcj, hfj⟩ := bcell bj; have hsj := bj.size; simp at hsj)))
      all_goals
        rename_i hH
        obtain ⟨hB2, hC2⟩ := hH
        by_cases ha0 : a ≤ 0
        all_goals
          have hbf : 0 < a → decide (Cal.num Y M D < Cal.num y m d) = false := fun g => decide_eq_false (by have := NN.out g; omega)
          have HBF : Hid (0 < a → decide (Cal.num Y M D < Cal.num y m d) = false) := hbf
          clear hbf
          go_wp2_with (first
            | (go_at_call 9; refine (shift_any _ _ _ _ _).mono ?_; rintro e wz ⟨rfl, bz⟩; rw [FB.out.1, FB.out.2.1, FB.out.2.2]; replace hB2 := below_then hB2 bz; replace hC2 := cW _ hB2; clear bz)
            | (go_at_call 12; refine (before_any _ _ _ _ _ _ _).mono ?_; rintro e wz ⟨rfl, bz⟩; rw [HBF.out (by omega)]; replace hB2 := below_then hB2 bz; replace hC2 := cW _ hB2; clear bz)
            | (go_at_call 3; refine (civilRuns_any _).mono ?_; rintro e wz ⟨rfl, bz⟩; replace hB2 := below_then hB2 bz; clear bz))
          go_ret
          exact ⟨rfl, below_then bW2 hB2⟩
    · have hDd : D = d := by rw [HD.out, if_neg hLd]
      subst hDd
      have hif : (if L < D then L else D) = D := if_neg hLd
      clear HD Dd
      refine wp_letter (fun wx => Below w.heap.size w wx ∧ ∃ G, w4.heap.size = G ∧ wx.cell? ⟨B, 0, none⟩ = some (.int .i64 y) ∧ wx.cell? ⟨B, 1, none⟩ = some (.int .i64 m) ∧ wx.cell? ⟨B, 2, none⟩ = some (.int .i64 D) ∧ wx.cell? ⟨E, 0, none⟩ = some (.int .i64 Y) ∧ wx.cell? ⟨E, 1, none⟩ = some (.int .i64 M) ∧ wx.cell? ⟨E, 2, none⟩ = some (.int .i64 D) ∧ wx.cell? ⟨G, 0, none⟩ = some (.int .i64 y) ∧ wx.cell? ⟨G, 1, none⟩ = some (.int .i64 m) ∧ wx.cell? ⟨G, 2, none⟩ = some (.int .i64 D)) ?_ ?_
      · refine ⟨below_alloc (below_then (below_then bW hB) k4) _, _, rfl, ?_⟩
        have q := (Below.refl w4.heap.size w4).alloc (Nat.le_refl _) (.cells #[.int .i64 y, .int .i64 m, .int .i64 D] 23)
        obtain ⟨c1, c2, c3, c4, c5, c6⟩ := hC
        refine ⟨cell_keep q (cell_keep k4 c1), cell_keep q (cell_keep k4 c2), cell_keep q (cell_keep k4 c3), cell_keep q (cell_keep k4 c4), cell_keep q (cell_keep k4 c5), cell_keep q (cell_keep k4 c6), ?_⟩
        simp
      clear cW hC
      rintro W2 ⟨bW2, G, eG, hC⟩
      rw [eG]
      have cW : ∀ wx, Below W2.heap.size W2 wx → wx.cell? ⟨B, 0, none⟩ = some (.int .i64 y) ∧ wx.cell? ⟨B, 1, none⟩ = some (.int .i64 m) ∧ wx.cell? ⟨B, 2, none⟩ = some (.int .i64 D) ∧ wx.cell? ⟨E, 0, none⟩ = some (.int .i64 Y) ∧ wx.cell? ⟨E, 1, none⟩ = some (.int .i64 M) ∧ wx.cell? ⟨E, 2, none⟩ = some (.int .i64 D) ∧ wx.cell? ⟨G, 0, none⟩ = some (.int .i64 y) ∧ wx.cell? ⟨G, 1, none⟩ = some (.int .i64 m) ∧ wx.cell? ⟨G, 2, none⟩ = some (.int .i64 D) := by
        obtain ⟨c1, c2, c3, c4, c5, c6, c7, c8, c9⟩ := hC
        exact fun wx b => ⟨cell_keep b c1, cell_keep b c2, cell_keep b c3, cell_keep b c4, cell_keep b c5, cell_keep b c6, cell_keep b c7, cell_keep b c8, cell_keep b c9⟩
      clear eG hC bW hB k4
      have hw1 : IntKind.i64.wrap (12 * Y) = 12 * Y := wrap_in _ (by omega) (by omega)
      have hw2 : IntKind.i64.wrap (12 * Y + M) = 12 * Y + M := wrap_in _ (by omega) (by omega)
      have hw3 : IntKind.i64.wrap (12 * Y + M - 1) = 12 * Y + M - 1 := wrap_in _ (by omega) (by omega)
      have hne : (12 * Y + M - 1 != A) = false := by rw [EA.out]; simp
      have hgt : decide (D < D) = false := decide_eq_false (by omega)
      go_region_held3 (fun wx => Below W2.heap.size W2 wx ∧ wx.cell? ⟨B, 0, none⟩ = some (.int .i64 y) ∧ wx.cell? ⟨B, 1, none⟩ = some (.int .i64 m) ∧ wx.cell? ⟨B, 2, none⟩ = some (.int .i64 D) ∧ wx.cell? ⟨E, 0, none⟩ = some (.int .i64 Y) ∧ wx.cell? ⟨E, 1, none⟩ = some (.int .i64 M) ∧ wx.cell? ⟨E, 2, none⟩ = some (.int .i64 D) ∧ wx.cell? ⟨G, 0, none⟩ = some (.int .i64 y) ∧ wx.cell? ⟨G, 1, none⟩ = some (.int .i64 m) ∧ wx.cell? ⟨G, 2, none⟩ = some (.int .i64 D))
        (first
          | exact ⟨(Below.refl _ _).drew, cW _ (Below.refl _ _).drew⟩
          | (go_split_ands; have hk := below_then (by assumption : Below W2.heap.size W2 _) (by assumption); exact ⟨hk, cW _ hk⟩)
          | (go_split_ands; have hk := (by assumption : Below W2.heap.size W2 _); exact ⟨hk, cW _ hk⟩))
        (first
          | ((go_at_call 16; refine (right_date _ _ _ _).mono ?_; rintro e wn ⟨rfl, bn⟩; rw [R2.out]))
          | ((go_at_call 11; refine (last_any _ _ _).mono ?_; rintro e wn ⟨rfl, rfl⟩; rw [HL.out])))
      rename_i hH
      obtain ⟨hB, hC⟩ := hH
      obtain ⟨J, hJ⟩ : ∃ J, 0 + j % (9 - 0 + 1) = J := ⟨_, rfl⟩
      have hJ' : 0 + j % 10 = J := hJ
      have J0 : 0 ≤ J := by omega
      have J9 : J ≤ 9 := by omega
      have HJ : Hid (0 + j % (9 - 0 + 1) = J) := hJ
      clear hJ hJ' hw1 hw2 hw3 hne hgt
      have FA : Hid (Cal.shY y m D (4611686018427387904 + J) = 0 ∧ Cal.shM y m D (4611686018427387904 + J) = 0 ∧ Cal.shD y m D (4611686018427387904 + J) = 0) := Cal.shift_out y m D _ (by omega)
      have FB : Hid (Cal.shY y m D (-9223372036854775808) = 0 ∧ Cal.shM y m D (-9223372036854775808) = 0 ∧ Cal.shD y m D (-9223372036854775808) = 0) := Cal.shift_out y m D _ (by omega)
      have hwj : IntKind.i64.wrap (4611686018427387904 + J) = 4611686018427387904 + J := wrap_in _ (by omega) (by omega)
      have hBs := hB.size
      go_upto_region 12 with fail
      go_region_held3 (fun wx => Below W2.heap.size W2 wx ∧ wx.cell? ⟨B, 0, none⟩ = some (.int .i64 y) ∧ wx.cell? ⟨B, 1, none⟩ = some (.int .i64 m) ∧ wx.cell? ⟨B, 2, none⟩ = some (.int .i64 D) ∧ wx.cell? ⟨E, 0, none⟩ = some (.int .i64 Y) ∧ wx.cell? ⟨E, 1, none⟩ = some (.int .i64 M) ∧ wx.cell? ⟨E, 2, none⟩ = some (.int .i64 D) ∧ wx.cell? ⟨G, 0, none⟩ = some (.int .i64 y) ∧ wx.cell? ⟨G, 1, none⟩ = some (.int .i64 m) ∧ wx.cell? ⟨G, 2, none⟩ = some (.int .i64 D))
        (first
          | exact ⟨hB.drew, cW _ hB.drew⟩
          | (go_split_ands; refine held (cW _) ?_; first | assumption | exact below_thn (by assumption) (by assumption) | exact below_alloc (by assumption) _ | exact below_set3 (by assumption) (by first | omega | (simp; omega))))
        (first
          | ((go_at_call 19; refine (within_any _ _ _ (by omega) (by omega) (by omega) (by omega) _).mono ?_; rintro e wj ⟨rfl, hq⟩; have hq := hq.symm; subst hq; rw [HJ.out]))
          | ((go_at_call 9; refine (shift_any _ _ _ _ _).mono ?_; rintro e wj ⟨rfl, bj⟩; rw [FA.out.1, FA.out.2.1, FA.out.2.2]; obtain ⟨hcj, hfj⟩ := bcell bj; have hsj := bj.size; simp at hsj)))
      all_goals
        rename_i hH
        obtain ⟨hB2, hC2⟩ := hH
        by_cases ha0 : a ≤ 0
        all_goals
          have hbf : 0 < a → decide (Cal.num Y M D < Cal.num y m D) = false := fun g => decide_eq_false (by have := NN.out g; omega)
          have HBF : Hid (0 < a → decide (Cal.num Y M D < Cal.num y m D) = false) := hbf
          clear hbf
          go_wp2_with (first
            | (go_at_call 9; refine (shift_any _ _ _ _ _).mono ?_; rintro e wz ⟨rfl, bz⟩; rw [FB.out.1, FB.out.2.1, FB.out.2.2]; replace hB2 := below_then hB2 bz; replace hC2 := cW _ hB2; clear bz)
            | (go_at_call 12; refine (before_any _ _ _ _ _ _ _).mono ?_; rintro e wz ⟨rfl, bz⟩; rw [HBF.out (by omega)]; replace hB2 := below_then hB2 bz; replace hC2 := cW _ hB2; clear bz)
            | (go_at_call 3; refine (civilRuns_any _).mono ?_; rintro e wz ⟨rfl, bz⟩; replace hB2 := below_then hB2 bz; clear bz))
          go_ret
          exact ⟨rfl, below_then bW2 hB2⟩
  · have so := Cal.shift_out y m d a (by omega)
    have SO : Hid (Cal.shY y m d a = 0 ∧ Cal.shM y m d a = 0 ∧ Cal.shD y m d a = 0) := so
    clear so
    go_upto_region 4 with (first
      | (go_at_call 19; refine (within_any _ _ _ (by omega) (by omega) (by omega) (by omega) _).mono ?_; rintro e wq ⟨rfl, hq⟩; have hq := hq.symm; subst hq; rw [HA.out])
      | (go_at_call 9; refine (shift_any _ _ _ _ _).mono ?_; rintro e w2 ⟨rfl, k2⟩; rw [SO.out.1, SO.out.2.1, SO.out.2.2]))
    refine wp_letter (fun wx => Below w.heap.size w wx ∧ ∃ B E, w1.heap.size = B ∧ w2.heap.size = E ∧ wx.cell? ⟨B, 0, none⟩ = some (.int .i64 y) ∧ wx.cell? ⟨B, 1, none⟩ = some (.int .i64 m) ∧ wx.cell? ⟨B, 2, none⟩ = some (.int .i64 d) ∧ wx.cell? ⟨E, 0, none⟩ = some (.int .i64 0) ∧ wx.cell? ⟨E, 1, none⟩ = some (.int .i64 0) ∧ wx.cell? ⟨E, 2, none⟩ = some (.int .i64 0)) ?_ ?_
    · refine ⟨below_alloc (below_then (below_alloc k1 _) k2) _, _, _, rfl, rfl, ?_⟩
      have q := (Below.refl w2.heap.size w2).alloc (Nat.le_refl _) (.cells #[.int .i64 0, .int .i64 0, .int .i64 0] 23)
      refine ⟨cell_keep q (cell_keep k2 (by simp)), cell_keep q (cell_keep k2 (by simp)), cell_keep q (cell_keep k2 (by simp)), ?_⟩
      simp
    rintro W ⟨bW, B, E, eB, eE, hC⟩
    rw [eB, eE]
    have cW : ∀ wx, Below W.heap.size W wx → wx.cell? ⟨B, 0, none⟩ = some (.int .i64 y) ∧ wx.cell? ⟨B, 1, none⟩ = some (.int .i64 m) ∧ wx.cell? ⟨B, 2, none⟩ = some (.int .i64 d) ∧ wx.cell? ⟨E, 0, none⟩ = some (.int .i64 0) ∧ wx.cell? ⟨E, 1, none⟩ = some (.int .i64 0) ∧ wx.cell? ⟨E, 2, none⟩ = some (.int .i64 0) := by
      obtain ⟨c1, c2, c3, c4, c5, c6⟩ := hC
      exact fun wx b => ⟨cell_keep b c1, cell_keep b c2, cell_keep b c3, cell_keep b c4, cell_keep b c5, cell_keep b c6⟩
    clear eB eE hC k1 k2
    go_region_held3 (fun wx => Below W.heap.size W wx ∧ wx.cell? ⟨B, 0, none⟩ = some (.int .i64 y) ∧ wx.cell? ⟨B, 1, none⟩ = some (.int .i64 m) ∧ wx.cell? ⟨B, 2, none⟩ = some (.int .i64 d) ∧ wx.cell? ⟨E, 0, none⟩ = some (.int .i64 0) ∧ wx.cell? ⟨E, 1, none⟩ = some (.int .i64 0) ∧ wx.cell? ⟨E, 2, none⟩ = some (.int .i64 0))
      (first
        | exact ⟨(Below.refl _ _).drew, cW _ (Below.refl _ _).drew⟩
        | (go_split_ands; have hk := below_then (by assumption : Below W.heap.size W _) (by assumption); exact ⟨hk, cW _ hk⟩))
      (first | ((go_at_call 9; refine (shift_any _ _ _ _ _).mono ?_; rintro e wn ⟨rfl, bn⟩; rw [SZ.out.1, SZ.out.2.1, SZ.out.2.2])))
    rename_i hH
    obtain ⟨hB, hC⟩ := hH
    by_cases hA0 : A < 12
    all_goals
      go_wp2_with (go_at_call 3; refine (civilRuns_any _).mono ?_; rintro e wz ⟨rfl, bz⟩; replace hB := below_then hB bz; clear bz)
      go_ret
      exact ⟨rfl, below_then bW hB⟩
end Go.Proofs.Ytmmompnianheiaa
