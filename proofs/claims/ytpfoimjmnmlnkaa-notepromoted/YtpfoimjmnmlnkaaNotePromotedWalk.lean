/-
  The walk of NotePromoted.
-/
import Derived.Test.YtpfoimjmnmlnkaaNoteRunsWalk
import Derived.Test.YtpfoimjmnmlnkaaBook
import Derived.Test.YtpfoimjmnmlnkaaRowTerms
namespace Go.Proofs.Ytpfoimjmnmlnkaa
open Go.RowKit

set_option maxRecDepth 1000000 in
set_option maxHeartbeats 40000000 in
theorem notePromoted_any (r g t c d v : Int) (w : World) (_w0 : (Lit.int .i64 r).wf = true ∧ (Lit.int .i64 g).wf = true ∧ (Lit.int .i64 t).wf = true) (_w1 : (Lit.int .i64 c).wf = true) (_w2 : (Lit.int .i64 d).wf = true) (_w3 : (Lit.int .i64 v).wf = true) :
    Calls Try.prog 7 #[.agg #[.int .i64 r, .int .i64 g, .int .i64 t], .int .i64 c, .int .i64 d, .int .i64 v] w fun e w' => e = .returned (.bool true) ∧ Below w.heap.size w w' := by
  obtain ⟨R, h1⟩ : ∃ b, 0 + r % (7 - 0 + 1) = b := ⟨_, rfl⟩
  obtain ⟨G, h2⟩ : ∃ b, 0 + g % (1073741824 - 0 + 1) = b := ⟨_, rfl⟩
  obtain ⟨T, h3⟩ : ∃ b, 0 + t % (5000 - 0 + 1) = b := ⟨_, rfl⟩
  have G0 : 0 ≤ G := by omega
  have G1 : G ≤ 1073741824 := by omega
  obtain ⟨K, h4⟩ : ∃ b, 0 + c % (G - 0 + 1) = b := ⟨_, rfl⟩
  have m4 := Int.emod_nonneg c (b := G - 0 + 1) (by omega)
  have n4 := Int.emod_lt_of_pos c (b := G - 0 + 1) (by omega)
  obtain ⟨D, h5⟩ : ∃ b, 0 + d % (2147483648 - 0 + 1) = b := ⟨_, rfl⟩
  obtain ⟨V, h6⟩ : ∃ b, 0 + v % (2147483648 - 0 + 1) = b := ⟨_, rfl⟩
  have E1 : Hid (0 + r % (7 - 0 + 1) = R) := h1
  have E2 : Hid (0 + g % (1073741824 - 0 + 1) = G) := h2
  have E3 : Hid (0 + t % (5000 - 0 + 1) = T) := h3
  have E4 : Hid (0 + c % (G - 0 + 1) = K) := h4
  have E5 : Hid (0 + d % (2147483648 - 0 + 1) = D) := h5
  have E6 : Hid (0 + v % (2147483648 - 0 + 1) = V) := h6
  have R0 : 0 ≤ R := by omega
  have R1 : R ≤ 7 := by omega
  have T0 : 0 ≤ T := by omega
  have T1 : T ≤ 5000 := by omega
  have K0 : 0 ≤ K := by omega
  have K1 : K ≤ G := by omega
  have D0 : 0 ≤ D := by omega
  have D1 : D ≤ 2147483648 := by omega
  have V0 : 0 ≤ V := by omega
  have V1 : V ≤ 2147483648 := by omega
  clear h1 h2 h3 h4 h5 h6 m4 n4 _w0 _w1 _w2 _w3
  go_enter Try.func7, Try.ntmps7
  go_upto_region 1 with fail
  refine wp_letter (fun wx => Below w.heap.size w wx ∧ wx.cell? ⟨w.heap.size, 0, none⟩ = some (.int .i64 r) ∧ wx.cell? ⟨w.heap.size, 1, none⟩ = some (.int .i64 g) ∧ wx.cell? ⟨w.heap.size, 2, none⟩ = some (.int .i64 t) ∧ wx.frozen? ⟨w.heap.size, 0, none⟩ = false ∧ wx.frozen? ⟨w.heap.size, 1, none⟩ = false ∧ wx.frozen? ⟨w.heap.size, 2, none⟩ = false) ⟨below_alloc (Below.refl _ _) _, by simp [go_sem]⟩ ?_
  rintro W ⟨hB, c0, c1, c2, f0, f1, f2⟩
  go_cut [4] (fun p wx => p = .pointer (some ⟨w.heap.size, 0, none⟩) ∧ Below w.heap.size w wx ∧ wx.cell? ⟨w.heap.size, 0, none⟩ = some (.int .i64 R) ∧ wx.cell? ⟨w.heap.size, 1, none⟩ = some (.int .i64 G) ∧ wx.cell? ⟨w.heap.size, 2, none⟩ = some (.int .i64 T))
  case first =>
    go_region_with ((go_at_call 15; refine (within_any _ _ _ (by omega) (by omega) (by omega) (by omega) _).mono ?_; rintro e wq ⟨rfl, hq⟩; have hq := hq.symm; subst hq; (first | rw [E1.out] | rw [E2.out] | rw [E3.out] | rw [E4.out] | rw [E5.out] | rw [E6.out])))
    all_goals
      go_wp2
      go_meet
      case rel => exact ⟨rfl, ((hB.drew.setCell (p := ⟨w.heap.size, 0, none⟩) (Nat.le_refl _) _).setCell (p := ⟨w.heap.size, 1, none⟩) (Nat.le_refl _) _).setCell (p := ⟨w.heap.size, 2, none⟩) (Nat.le_refl _) _, by simp (maxDischargeDepth := 12) [go_sem, *]⟩
  case rest =>
  obtain ⟨rfl, hX, x0, x1, x2⟩ := hcut
  clear hB c0 c1 c2 f0 f1 f2 W
  go_upto_region 3 with (go_at_call 8; refine (new_any _ _ _ _).mono ?_; rintro e w1 ⟨rfl, b1⟩; unfold noteV)
  refine wp_letter (fun wx => Below w.heap.size w wx ∧ ∃ A, w1.heap.size = A ∧ w.heap.size < A ∧ Nt wx A 0 R G T 0 0 0 0 ∧ wx.cell? ⟨w.heap.size, 0, none⟩ = some (.int .i64 R) ∧ wx.cell? ⟨w.heap.size, 1, none⟩ = some (.int .i64 G) ∧ wx.cell? ⟨w.heap.size, 2, none⟩ = some (.int .i64 T)) ?_ ?_
  · have z := World.block_lt_of_cell? wc ⟨w.heap.size, 0, none⟩ x0
    have b2 := below_alloc b1 (.cells #[.int .i64 R, .int .i64 G, .int .i64 T, .int .i64 0, .int .i64 0, .int .i64 0, .int .i64 0] 27)
    exact ⟨below_then hX b2, _, rfl, Nat.lt_of_lt_of_le z b1.size, Nt.fresh _ _ _ _ _ _ _ _ _, cell_keep b2 x0, cell_keep b2 x1, cell_keep b2 x2⟩
  clear hX x0 x1 x2
  rintro W ⟨hB, A, eA, hA, hN, x0, x1, x2⟩
  rw [eA]
  clear eA b1
  go_upto_region 4 with (go_at_call 15; refine (within_any _ _ _ (by omega) (by omega) (by omega) (by omega) _).mono ?_; rintro e wq ⟨rfl, hq⟩; have hq := hq.symm; subst hq; (first | rw [E1.out] | rw [E2.out] | rw [E3.out] | rw [E4.out] | rw [E5.out] | rw [E6.out]))
  have mP : Hid (mayPut 0 K = true) := by show _ = _; simp [mayPut]; omega
  have C1 : Hid (Calm G K 0 0) := ⟨⟨by omega, by omega, by omega⟩, by omega, by omega, by omega, by omega⟩
  obtain ⟨L, hL⟩ : ∃ L, G - K = L := ⟨_, rfl⟩
  have B1 : Hid (bal G K 0 0 = L) := by show _ = _; unfold bal; omega
  have H1 : Hid (K - 0 = K) := by show _ = _; omega
  have eL : IntKind.i64.wrap (G - K) = L := by rw [wrap_in _ (by omega) (by omega)]; omega
  have hL' : Hid (G - K = L) := hL
  clear hL
  go_cut [57] (fun c wx => c = .bool false ∧ Below w.heap.size w wx ∧ Nt wx A 0 R G T K 0 0 0 ∧ wx.cell? ⟨w.heap.size, 0, none⟩ = some (.int .i64 R) ∧ wx.cell? ⟨w.heap.size, 1, none⟩ = some (.int .i64 G) ∧ wx.cell? ⟨w.heap.size, 2, none⟩ = some (.int .i64 T))
  case first =>
    have bd : Below W.heap.size W W.drew := (Below.refl _ _).drew
    replace hB := below_then hB bd
    replace hN := hN.then bd
    replace x0 := cell_keep bd x0
    replace x1 := cell_keep bd x1
    replace x2 := cell_keep bd x2
    clear bd
    (first | (go_region_with (first
      | (go_at_call 21; refine (put_yes A 3 0 0 K _ (by omega) (by omega) hN.pur mP.out).mono ?_; rintro e wn ⟨rfl, cn, pn⟩; replace hB := Chg.below cn hB (by omega) hB.size; replace hN := hN.purse cn pn; replace x0 := (Chn.of_chg (o := 0) cn).far x0 (by omega); replace x1 := (Chn.of_chg (o := 0) cn).far x1 (by omega); replace x2 := (Chn.of_chg (o := 0) cn).far x2 (by omega); clear cn pn; rw [Int.zero_add] at hN; obtain ⟨y0, y1, y2, y3, y4, y5, y6, _⟩ := id hN)
      | (go_at_call 12; refine (balance_to C1.out B1.out).mono ?_; rintro e wn ⟨rfl, bn⟩; replace hB := below_then hB bn; replace hN := hN.then bn; replace x0 := cell_keep bn x0; replace x1 := cell_keep bn x1; replace x2 := cell_keep bn x2; clear bn; obtain ⟨y0, y1, y2, y3, y4, y5, y6, _⟩ := id hN)
      | (go_at_call 13; refine (has_to C1.out.fit H1.out).mono ?_; rintro e wn ⟨rfl, bn⟩; replace hB := below_then hB bn; replace hN := hN.then bn; replace x0 := cell_keep bn x0; replace x1 := cell_keep bn x1; replace x2 := cell_keep bn x2; clear bn; obtain ⟨y0, y1, y2, y3, y4, y5, y6, _⟩ := id hN))) | fail)
    all_goals
      go_wp2
      go_meet
      case rel => exact ⟨rfl, hB, hN, x0, x1, x2⟩
  case rest =>
  clear hB hN mP x0 x1 x2 W eL
  obtain ⟨rfl, hX, hM, x0, x1, x2⟩ := hcut
  obtain ⟨X, hX1⟩ : ∃ X, upTo L D = X := ⟨_, rfl⟩
  obtain ⟨Y, hY1⟩ : ∃ Y, upTo (L - X) V = Y := ⟨_, rfl⟩
  have l0 : 0 ≤ L := by have := hL'.out; omega
  have l1 : L ≤ G := by have := hL'.out; omega
  have X0 : 0 ≤ X := by have := upTo_bd L D; omega
  have X1 : X ≤ L := by have := upTo_bd L D; omega
  have Y0 : 0 ≤ Y := by have := upTo_bd (L - X) V; omega
  have Y1 : Y ≤ L - X := by have := upTo_bd (L - X) V; omega
  have P1 : Hid ((if mayPut K (upTo (bal G K 0 0) D) then upTo (bal G K 0 0) D else 0) = X) := by
    show _ = _
    have := hL'.out
    rw [B1.out, hX1, if_pos (by simp [mayPut]; omega)]
  have C2 : Hid (Calm G (K + X) 0 0) := by have := hL'.out; exact ⟨⟨by omega, by omega, by omega⟩, by omega, by omega, by omega, by omega⟩
  have C3 : Hid (Calm G (K + X) 0 Y) := by have := hL'.out; exact ⟨⟨by omega, by omega, by omega⟩, by omega, by omega, by omega, by omega⟩
  have P2 : Hid (upTo (bal G (K + X) 0 0) V = Y) := by
    show _ = _
    rw [← hY1]
    congr 1
    have := hL'.out
    unfold bal; omega
  have P3 : Hid (upTo Y Y = Y) := by show _ = _; unfold upTo; omega
  obtain ⟨U, hU⟩ : ∃ U, K + X = U := ⟨_, rfl⟩
  obtain ⟨Z, hZ⟩ : ∃ Z, L - X = Z := ⟨_, rfl⟩
  rw [hU] at C2 C3 P2
  have B2 : Hid (bal G U 0 0 = Z) := by show _ = _; have := hL'.out; unfold bal; omega
  have H2 : Hid (U - 0 = U) := by show _ = _; omega
  have hUZ : Hid (K + X = U ∧ L - X = Z ∧ G - K = L) := ⟨hU, hZ, hL'.out⟩
  have RR : Hid (rightN R G T U 0 0 0 = true) := by show _ = _; have := hL'.out; simp [rightN, inB]; omega
  have Z2 : Hid (Y - Y = 0) := by show _ = _; omega
  have Z1 : Hid (0 + Y = Y) := by show _ = _; omega
  have q1 : K + X = U := hU
  have q2 : G - K - X = Z := by have := hL'.out; omega
  clear hX1 hY1
  obtain ⟨y0, y1, y2, y3, y4, y5, y6, _⟩ := id hM
  go_upto_region 7 with fail
  refine wp_letter (fun wx => Below w.heap.size w wx ∧ ∃ A2, wc.heap.size = A2 ∧ A < A2 ∧ Nt wx A 0 R G T K 0 0 0 ∧ Nt wx A2 0 R G T K 0 0 0 ∧ wx.cell? ⟨w.heap.size, 0, none⟩ = some (.int .i64 R) ∧ wx.cell? ⟨w.heap.size, 1, none⟩ = some (.int .i64 G) ∧ wx.cell? ⟨w.heap.size, 2, none⟩ = some (.int .i64 T)) ?_ ?_
  · have b2 := below_alloc (Below.refl _ wc) (.cells #[.int .i64 R, .int .i64 G, .int .i64 T, .int .i64 K, .int .i64 0, .int .i64 0, .int .i64 0] 27)
    exact ⟨below_then hX b2, _, rfl, hM.lt, hM.then b2, Nt.fresh _ _ _ _ _ _ _ _ _, cell_keep b2 x0, cell_keep b2 x1, cell_keep b2 x2⟩
  clear hX hM x0 x1 x2 y0 y1 y2 y3 y4 y5 y6
  rintro W ⟨hB, A2, eA, hA2, hM, hN, x0, x1, x2⟩
  rw [eA]
  clear eA
  go_upto_region 10 with (first
    | (go_at_call 15; refine (within_any _ _ _ (by omega) (by omega) (by omega) (by omega) _).mono ?_; rintro e wq ⟨rfl, hq⟩; have hq := hq.symm; subst hq; (first | rw [E1.out] | rw [E2.out] | rw [E3.out] | rw [E4.out] | rw [E5.out] | rw [E6.out]))
    | (go_at_call 9; refine (pay_to hN C1.out P1.out hUZ.out.1).mono ?_; rintro e wn ⟨rfl, cn, pn⟩; replace hB := cn.below hB (by omega) hB.size; replace hN := pn; replace hM := hM.chn cn (Or.inl (by omega)); replace x0 := cn.far x0 (by omega); replace x1 := cn.far x1 (by omega); replace x2 := cn.far x2 (by omega); clear cn pn)
    | (go_at_call 10; refine (write_to hN C2.out P2.out Z1.out).mono ?_; rintro e wn ⟨rfl, cn, pn⟩; replace hB := cn.below hB (by omega) hB.size; replace hN := pn; replace hM := hM.chn cn (Or.inl (by omega)); replace x0 := cn.far x0 (by omega); replace x1 := cn.far x1 (by omega); replace x2 := cn.far x2 (by omega); clear cn pn)
    | (go_at_call 11; refine (restore_to hN C3.out P3.out Z2.out).mono ?_; rintro e wn ⟨rfl, cn, pn⟩; replace hB := cn.below hB (by omega) hB.size; replace hN := pn; replace hM := hM.chn cn (Or.inl (by omega)); replace x0 := cn.far x0 (by omega); replace x1 := cn.far x1 (by omega); replace x2 := cn.far x2 (by omega); clear cn pn))
  have r1 : IntKind.i64.wrap (K + X) = U := by rw [wrap_in _ (by omega) (by omega)]; omega
  have r2 : IntKind.i64.wrap (G - K) = L := by have := hL'.out; rw [wrap_in _ (by omega) (by omega)]; omega
  have r3 : IntKind.i64.wrap (L - X) = Z := by rw [wrap_in _ (by omega) (by omega)]; omega
  clear hU hZ q1 q2
  have cW : ∀ wx, Below wn.heap.size wn wx → wx.cell? ⟨A, 0, none⟩ = some (.int .i64 R) ∧ wx.cell? ⟨A, 1, none⟩ = some (.int .i64 G) ∧ wx.cell? ⟨A, 2, none⟩ = some (.int .i64 T) ∧ wx.cell? ⟨A, 3, none⟩ = some (.int .i64 K) ∧ wx.cell? ⟨A, 4, none⟩ = some (.int .i64 0) ∧ wx.cell? ⟨A, 5, none⟩ = some (.int .i64 0) ∧ wx.cell? ⟨A, 6, none⟩ = some (.int .i64 0) ∧ wx.cell? ⟨A2, 0, none⟩ = some (.int .i64 R) ∧ wx.cell? ⟨A2, 1, none⟩ = some (.int .i64 G) ∧ wx.cell? ⟨A2, 2, none⟩ = some (.int .i64 T) ∧ wx.cell? ⟨A2, 3, none⟩ = some (.int .i64 U) ∧ wx.cell? ⟨A2, 4, none⟩ = some (.int .i64 0) ∧ wx.cell? ⟨A2, 5, none⟩ = some (.int .i64 0) ∧ wx.cell? ⟨A2, 6, none⟩ = some (.int .i64 0) ∧ wx.cell? ⟨w.heap.size, 0, none⟩ = some (.int .i64 R) ∧ wx.cell? ⟨w.heap.size, 1, none⟩ = some (.int .i64 G) ∧ wx.cell? ⟨w.heap.size, 2, none⟩ = some (.int .i64 T) := fun wx bx => by
    have a := hM.then bx
    have b := hN.then bx
    exact ⟨a.c0, a.c1, a.c2, a.c3, a.c4, a.c5, a.c6, b.c0, b.c1, b.c2, b.c3, b.c4, b.c5, b.c6, cell_keep bx x0, cell_keep bx x1, cell_keep bx x2⟩
  simp only [List.append]
  go_region_held3 (fun wx => Below wn.heap.size wn wx ∧ wx.cell? ⟨A, 0, none⟩ = some (.int .i64 R) ∧ wx.cell? ⟨A, 1, none⟩ = some (.int .i64 G) ∧ wx.cell? ⟨A, 2, none⟩ = some (.int .i64 T) ∧ wx.cell? ⟨A, 3, none⟩ = some (.int .i64 K) ∧ wx.cell? ⟨A, 4, none⟩ = some (.int .i64 0) ∧ wx.cell? ⟨A, 5, none⟩ = some (.int .i64 0) ∧ wx.cell? ⟨A, 6, none⟩ = some (.int .i64 0) ∧ wx.cell? ⟨A2, 0, none⟩ = some (.int .i64 R) ∧ wx.cell? ⟨A2, 1, none⟩ = some (.int .i64 G) ∧ wx.cell? ⟨A2, 2, none⟩ = some (.int .i64 T) ∧ wx.cell? ⟨A2, 3, none⟩ = some (.int .i64 U) ∧ wx.cell? ⟨A2, 4, none⟩ = some (.int .i64 0) ∧ wx.cell? ⟨A2, 5, none⟩ = some (.int .i64 0) ∧ wx.cell? ⟨A2, 6, none⟩ = some (.int .i64 0) ∧ wx.cell? ⟨w.heap.size, 0, none⟩ = some (.int .i64 R) ∧ wx.cell? ⟨w.heap.size, 1, none⟩ = some (.int .i64 G) ∧ wx.cell? ⟨w.heap.size, 2, none⟩ = some (.int .i64 T)) (first | (with_reducible exact held (cW _) (Below.refl _ _).drew) | (go_split_ands; with_reducible first | exact held (cW _) (below_then (by assumption : Below wn.heap.size wn _) (by assumption)) | exact held (cW _) (by assumption)))
    (first
      | ((go_at_call 13; (first | refine (has_to C1.out.fit H1.out).mono ?_ | refine (has_to C2.out.fit H2.out).mono ?_); rintro e wr ⟨rfl, br⟩))
      | ((go_at_call 12; refine (balance_to C2.out B2.out).mono ?_; rintro e wr ⟨rfl, br⟩))
      | ((go_at_call 14; refine (right_to C2.out.fit RR.out).mono ?_; rintro e wr ⟨rfl, br⟩))
      | ((go_at_call 3; refine (noteRuns_any _).mono ?_; rintro e wr ⟨rfl, br⟩)))
  rename_i hH
  go_wp2
  go_ret
  exact ⟨rfl, below_then hB hH.1⟩
end Go.Proofs.Ytpfoimjmnmlnkaa
