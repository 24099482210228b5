/-
  The walk of PurseMoves.
-/
import Derived.Test.YtkjglnjneblomaaPurseRunsWalk
import Derived.Test.YtkjglnjneblomaaBook
namespace Go.Proofs.Ytkjglnjneblomaa
open Go.RowKit

/-- What is between two worlds leaves all below B as it was. -/
def Leaves (P X Y : Nat) (w w' : World) : Prop := ∀ B a, Below B a w → B ≤ P → B ≤ X → B ≤ Y → B ≤ w.heap.size → Below B a w'

theorem move_xy (P X Y g : Nat) (H A B K XA YB : Int) (w : World) (hP : Pur w P 0 H 0) (hX : Pur w X 0 XA 0) (hY : Pur w Y 0 YB 0) (n1 : P ≠ X) (n2 : P ≠ Y) (n3 : X ≠ Y) (hg : g ≠ P)
    (h0 : w.cell? ⟨g, 0, none⟩ = some (.pointer (some ⟨X, 0, none⟩))) (h1 : w.cell? ⟨g, 1, none⟩ = some (.pointer (some ⟨Y, 0, none⟩)))
    (H0 : 0 ≤ H) (H1 : H ≤ 1125899906842624) (A0 : 0 ≤ A) (A1 : A ≤ 1125899906842624) (B0 : 0 ≤ B) (B1 : B ≤ 1125899906842624) (K0 : 0 ≤ K) (eX : XA = 1152921504606846976 - A) (eY : YB = 1152921504606846976 - B) :
    Calls Try.prog 15 #[.int .i64 K, .pointer (some ⟨P, 0, none⟩), .slice (some ⟨g, 0, none⟩) 2 2] w fun e w' =>
      ∃ G XI YI, e = .returned (.int .i64 G) ∧ ((min K H ≤ A ∧ G = min K H ∧ XI = XA + min K H ∧ YI = YB) ∨ (A < min K H ∧ min K H ≤ B ∧ G = min K H ∧ XI = XA ∧ YI = YB + min K H) ∨ (A < min K H ∧ B < min K H ∧ G = 0 ∧ XI = XA ∧ YI = YB)) ∧
        Pur w' P 0 H G ∧ Pur w' X 0 XI 0 ∧ Pur w' Y 0 YI 0 ∧ Leaves P X Y w w' := by
  have hf : Fit H 0 := ⟨by omega, by omega, by omega⟩
  have eg : goes H 0 K = min K H := by unfold goes; omega
  have hr : ReadsP w (.slice (some ⟨g, 0, none⟩) 2 2) P [some (X, 0), some (Y, 0)] := readsP_two hg h0 h1
  by_cases c1 : min K H ≤ A
  · have hm : mayPut XA (goes H 0 K) = true := by rw [eg]; simp [mayPut]; omega
    refine (move_hit P 0 H 0 K _ _ 0 X 0 XA 0 w hf hP hr (by simp) (fun k hk => by omega) ⟨rfl, hX, by omega, by omega, hm, Or.inl n1.symm⟩).mono ?_
    rintro e w' ⟨rfl, w1, k1, p1, k2, p2⟩
    rw [eg] at p1 p2 ⊢
    refine ⟨_, XA + min K H, YB, rfl, Or.inl ⟨c1, rfl, rfl, rfl⟩, ?_, p2, (hY.chg k1 (Or.inl n2.symm)).chg k2 (Or.inl n3.symm), fun B' a h b1 b2 b3 hs => ?_⟩
    · have := p1.chg k2 (Or.inl n1); rw [Int.zero_add] at this; exact this
    · exact k2.below (k1.below h b1 hs) b2 (Nat.le_trans hs k1.size)
  · have hm : mayPut XA (goes H 0 K) = false := by rw [eg]; simp [mayPut]; omega
    have r0 : Refuses w P 0 (goes H 0 K) (some (X, 0)) := Or.inr ⟨X, 0, XA, 0, rfl, hX, by omega, by omega, hm, Or.inl n1.symm⟩
    by_cases c2 : min K H ≤ B
    · have hm : mayPut YB (goes H 0 K) = true := by rw [eg]; simp [mayPut]; omega
      refine (move_hit P 0 H 0 K _ _ 1 Y 0 YB 0 w hf hP hr (by simp) (fun k hk => match k, hk with | 0, _ => r0) ⟨rfl, hY, by omega, by omega, hm, Or.inl n2.symm⟩).mono ?_
      rintro e w' ⟨rfl, w1, k1, p1, k2, p2⟩
      rw [eg] at p1 p2 ⊢
      refine ⟨_, XA, YB + min K H, rfl, Or.inr (Or.inl ⟨by omega, c2, rfl, rfl, rfl⟩), ?_, (hX.chg k1 (Or.inl n1.symm)).chg k2 (Or.inl n3), p2, fun B' a h b1 b2 b3 hs => ?_⟩
      · have := p1.chg k2 (Or.inl n2); rw [Int.zero_add] at this; exact this
      · exact k2.below (k1.below h b1 hs) b3 (Nat.le_trans hs k1.size)
    · have hm : mayPut YB (goes H 0 K) = false := by rw [eg]; simp [mayPut]; omega
      have r1 : Refuses w P 0 (goes H 0 K) (some (Y, 0)) := Or.inr ⟨Y, 0, YB, 0, rfl, hY, by omega, by omega, hm, Or.inl n2.symm⟩
      refine (move_miss P 0 H 0 K _ _ w hf hP hr (fun k hk => by
        match k, hk with
        | 0, _ => exact r0
        | 1, _ => exact r1)).mono ?_
      rintro e w' ⟨rfl, k1, p1⟩
      exact ⟨0, XA, YB, rfl, Or.inr (Or.inr ⟨by omega, by omega, rfl, rfl, rfl⟩), p1, hX.chg k1 (Or.inl n1.symm), hY.chg k1 (Or.inl n2.symm), fun B' a h b1 b2 b3 hs => k1.below h b1 hs⟩

set_option maxRecDepth 100000 in
set_option maxHeartbeats 2000000 in
theorem purseMoves_any (n hav a b : Int) (_w0 : (Lit.int .i64 n).wf = true) (_w1 : (Lit.int .i64 hav).wf = true) (_w2 : (Lit.int .i64 a).wf = true) (_w3 : (Lit.int .i64 b).wf = true) (w : World) :
    Calls Try.prog 5 #[.int .i64 n, .int .i64 hav, .int .i64 a, .int .i64 b] w fun e w' => e = .returned (.bool true) ∧ Below w.heap.size w w' := by
  obtain ⟨H, h1⟩ : ∃ b, 0 + hav % (1125899906842624 - 0 + 1) = b := ⟨_, rfl⟩
  obtain ⟨A, h2⟩ : ∃ b, 0 + a % (1125899906842624 - 0 + 1) = b := ⟨_, rfl⟩
  obtain ⟨B, h3⟩ : ∃ c, 0 + b % (1125899906842624 - 0 + 1) = c := ⟨_, rfl⟩
  obtain ⟨K, h4⟩ : ∃ b, 0 + n % (2251799813685248 - 0 + 1) = b := ⟨_, rfl⟩
  have g1 : 0 + hav % 1125899906842625 = H := h1
  have g2 : 0 + a % 1125899906842625 = A := h2
  have g3 : 0 + b % 1125899906842625 = B := h3
  have g4 : 0 + n % 2251799813685249 = K := h4
  have E1 : Hid (0 + hav % (1125899906842624 - 0 + 1) = H) := h1
  have E2 : Hid (0 + a % (1125899906842624 - 0 + 1) = A) := h2
  have E3 : Hid (0 + b % (1125899906842624 - 0 + 1) = B) := h3
  have E4 : Hid (0 + n % (2251799813685248 - 0 + 1) = K) := h4
  have H0 : 0 ≤ H := by omega
  have H1 : H ≤ 1125899906842624 := by omega
  have A0 : 0 ≤ A := by omega
  have A1 : A ≤ 1125899906842624 := by omega
  have B0 : 0 ≤ B := by omega
  have B1 : B ≤ 1125899906842624 := by omega
  have K0 : 0 ≤ K := by omega
  have K1 : K ≤ 2251799813685248 := by omega
  clear h1 h2 h3 h4 g1 g2 g3 g4 _w0 _w1 _w2 _w3
  obtain ⟨XA, eX⟩ : ∃ x, 1152921504606846976 - A = x := ⟨_, rfl⟩
  obtain ⟨YB, eY⟩ : ∃ x, 1152921504606846976 - B = x := ⟨_, rfl⟩
  have O1 : Hid (ofN H = H) := ofN_in (by omega) (by omega)
  have O2 : Hid (ofN XA = XA) := ofN_in (by omega) (by omega)
  have O3 : Hid (ofN YB = YB) := ofN_in (by omega) (by omega)
  go_enter Try.func5, Try.ntmps5
  go_upto_region 3 with (first
    | (go_at_call 16; refine (within_any _ _ _ (by omega) (by omega) (by omega) (by omega) _).mono ?_; rintro e wq ⟨rfl, hq⟩; have hq := hq.symm; subst hq; (first | rw [E1.out] | rw [E2.out] | rw [E3.out] | rw [E4.out]))
    | (go_at_call 8; refine (of_any _ _).mono ?_; (first
      | (rw [O1.out]; rintro e w1 ⟨rfl, q1⟩)
      | (rw [O2.out]; rintro e w2 ⟨rfl, q2⟩)
      | (rw [O3.out]; rintro e w3 ⟨rfl, q3⟩))))
  refine wp_letter (fun wx => Below w.heap.size w wx ∧ ∃ P X Y, w1.heap.size = P ∧ w3.heap.size = X ∧ w3.heap.size + 1 = Y ∧ w.heap.size ≤ P ∧ P < X ∧ X < Y ∧ Pur wx P 0 H 0 ∧ Pur wx X 0 XA 0 ∧ Pur wx Y 0 YB 0) ?_ ?_
  · have z2 := q2.size
    have z3 := q3.size
    simp at z2
    have b4 := below_alloc (below_alloc (Below.refl _ w3) (.cells #[.int .i64 XA, .int .i64 0] 23)) (.cells #[.int .i64 YB, .int .i64 0] 23)
    refine ⟨below_then (below_then (below_then (below_alloc q1 _) q2) q3) b4, _, _, _, rfl, rfl, rfl, q1.size, by omega, by omega, (((Pur.fresh w1 H 0 _).then q2).then q3).then b4, ?_, ?_⟩
    · exact (Pur.fresh w3 XA 0 _).then (below_alloc (Below.refl _ _) _)
    · have := Pur.fresh (w3.alloc (.cells #[.int .i64 XA, .int .i64 0] 23)) YB 0 23
      simpa using this
  rintro W ⟨hB, P, X, Y, eP, eX', eY', hA, hPX, hXY, hP, hX, hY⟩
  rw [eY', eX', eP]
  clear eP eX' eY' q1 q2 q3
  have cW : ∀ wx, Below W.heap.size W wx → wx.cell? ⟨P, 0, none⟩ = some (.int .i64 H) ∧ wx.cell? ⟨P, 1, none⟩ = some (.int .i64 0) ∧ wx.cell? ⟨X, 0, none⟩ = some (.int .i64 XA) ∧ wx.cell? ⟨X, 1, none⟩ = some (.int .i64 0) ∧ wx.cell? ⟨Y, 0, none⟩ = some (.int .i64 YB) ∧ wx.cell? ⟨Y, 1, none⟩ = some (.int .i64 0) := fun wx bx => ⟨(hP.then bx).c0, (hP.then bx).c1, (hX.then bx).c0, (hX.then bx).c1, (hY.then bx).c0, (hY.then bx).c1⟩
  have hC := cW _ (Below.refl _ _)
  have hK : Below W.heap.size W W := Below.refl _ _
  go_upto_region 5 with (first
    | (go_at_call 16; refine (within_any _ _ _ (by omega) (by omega) (by omega) (by omega) _).mono ?_; rintro e wq ⟨rfl, hq⟩; have hq := hq.symm; subst hq; (first | rw [E1.out] | rw [E2.out] | rw [E3.out] | rw [E4.out]))
    | (go_at_call 10; refine (has_any _ _ (by omega) (by omega) (by omega) _).mono ?_; rintro e wn ⟨rfl, bn⟩; replace hK := below_then hK bn; replace hC := cW _ hK; clear bn))
  clear cW hC
  replace hB := below_then hB hK
  replace hP := hP.then hK
  replace hX := hX.then hK
  replace hY := hY.then hK
  clear hK
  have cW : ∀ wx, Below wn.heap.size wn wx → wx.cell? ⟨P, 0, none⟩ = some (.int .i64 H) ∧ wx.cell? ⟨P, 1, none⟩ = some (.int .i64 0) ∧ wx.cell? ⟨X, 0, none⟩ = some (.int .i64 XA) ∧ wx.cell? ⟨X, 1, none⟩ = some (.int .i64 0) ∧ wx.cell? ⟨Y, 0, none⟩ = some (.int .i64 YB) ∧ wx.cell? ⟨Y, 1, none⟩ = some (.int .i64 0) := fun wx bx => ⟨(hP.then bx).c0, (hP.then bx).c1, (hX.then bx).c0, (hX.then bx).c1, (hY.then bx).c0, (hY.then bx).c1⟩
  have wa : IntKind.i64.wrap (1152921504606846976 - XA) = A := by rw [wrap_in _ (by omega) (by omega)]; omega
  have wb : IntKind.i64.wrap (1152921504606846976 - YB) = B := by rw [wrap_in _ (by omega) (by omega)]; omega
  have WAB : Hid (XA = 1152921504606846976 - A ∧ YB = 1152921504606846976 - B) := ⟨eX.symm, eY.symm⟩
  clear eX eY
  go_region_held3 (fun wx => Below wn.heap.size wn wx ∧ wx.cell? ⟨P, 0, none⟩ = some (.int .i64 H) ∧ wx.cell? ⟨P, 1, none⟩ = some (.int .i64 0) ∧ wx.cell? ⟨X, 0, none⟩ = some (.int .i64 XA) ∧ wx.cell? ⟨X, 1, none⟩ = some (.int .i64 0) ∧ wx.cell? ⟨Y, 0, none⟩ = some (.int .i64 YB) ∧ wx.cell? ⟨Y, 1, none⟩ = some (.int .i64 0)) (first | (with_reducible exact held (cW _) (Below.refl _ _).drew) | (go_split_ands; with_reducible first | exact held (cW _) (below_then (by assumption : Below wn.heap.size wn _) (by assumption)) | exact held (cW _) (by assumption)))
    (first
      | ((go_at_call 11; refine (in_any _ _ _).mono ?_; rintro e wm ⟨rfl, bm⟩)))
  rename_i hH
  have hK := hH.1
  clear hH cW wa wb
  replace hB := below_then hB hK
  replace hP := hP.then hK
  replace hX := hX.then hK
  replace hY := hY.then hK
  clear hK
  obtain ⟨T, hT⟩ : ∃ T, min K H = T := ⟨_, rfl⟩
  have hT' : (if H < K then H else K) = T := by rw [← hT]; split <;> omega
  have eT : Hid (min K H = T) := hT
  have T0 : 0 ≤ T := by omega
  have T1 : T ≤ H := by omega
  go_upto_region 8 with (first
    | (go_at_call 15; refine (move_xy P X Y _ H A B K XA YB _ (hP.then (below_alloc (Below.refl _ _) _)) (hX.then (below_alloc (Below.refl _ _) _)) (hY.then (below_alloc (Below.refl _ _) _)) (by omega) (by omega) (by omega) (by have := hY.lt; omega) (by simp [go_sem]) (by simp [go_sem]) H0 H1 A0 A1 B0 B1 K0 WAB.out.1 WAB.out.2).mono ?_; rintro e wm ⟨G, XI, YI, rfl, dG, pP, pX, pY, hL⟩))
  replace hB := hL _ _ (below_alloc hB _) hA (by omega) (by omega) (by have := hB.size; simp; omega)
  rw [hT] at dG
  obtain ⟨exa, eyb⟩ := WAB.out
  have DG : Hid ((T ≤ A ∧ G = T ∧ XI = XA + T ∧ YI = YB) ∨ (A < T ∧ T ≤ B ∧ G = T ∧ XI = XA ∧ YI = YB + T) ∨ (A < T ∧ B < T ∧ G = 0 ∧ XI = XA ∧ YI = YB)) := dG
  have G0 : 0 ≤ G := by omega
  have G1 : G ≤ H := by omega
  have x0 : 0 ≤ XI := by omega
  have x1 : XI ≤ 1152921504606846976 := by omega
  have y0 : 0 ≤ YI := by omega
  have y1 : YI ≤ 1152921504606846976 := by omega
  obtain ⟨S, hS⟩ : ∃ S, XI + YI = S := ⟨_, rfl⟩
  obtain ⟨M1, hM1⟩ : ∃ S, 2305843009213693952 - A = S := ⟨_, rfl⟩
  obtain ⟨M2, hM2⟩ : ∃ S, M1 - B = S := ⟨_, rfl⟩
  have e1 : IntKind.i64.wrap (G + (H - G)) = H := by rw [wrap_in _ (by omega) (by omega)]; omega
  have e2 : IntKind.i64.wrap (XI + YI) = S := by rw [wrap_in _ (by omega) (by omega)]; omega
  have e3 : IntKind.i64.wrap (2305843009213693952 - A) = M1 := by rw [wrap_in _ (by omega) (by omega)]; omega
  have e4 : IntKind.i64.wrap (M1 - B) = M2 := by rw [wrap_in _ (by omega) (by omega)]; omega
  have e5 : IntKind.i64.wrap (M2 + G) = S := by rw [wrap_in _ (by omega) (by omega)]; omega
  clear hS hM1 hM2 dG hL exa eyb hP hX hY hT hT' bm
  have cW : ∀ wx, Below wm.heap.size wm wx → wx.cell? ⟨P, 0, none⟩ = some (.int .i64 H) ∧ wx.cell? ⟨P, 1, none⟩ = some (.int .i64 G) ∧ wx.cell? ⟨X, 0, none⟩ = some (.int .i64 XI) ∧ wx.cell? ⟨X, 1, none⟩ = some (.int .i64 0) ∧ wx.cell? ⟨Y, 0, none⟩ = some (.int .i64 YI) ∧ wx.cell? ⟨Y, 1, none⟩ = some (.int .i64 0) := fun wx bx => ⟨(pP.then bx).c0, (pP.then bx).c1, (pX.then bx).c0, (pX.then bx).c1, (pY.then bx).c0, (pY.then bx).c1⟩
  go_region_held3 (fun wx => Below wm.heap.size wm wx ∧ wx.cell? ⟨P, 0, none⟩ = some (.int .i64 H) ∧ wx.cell? ⟨P, 1, none⟩ = some (.int .i64 G) ∧ wx.cell? ⟨X, 0, none⟩ = some (.int .i64 XI) ∧ wx.cell? ⟨X, 1, none⟩ = some (.int .i64 0) ∧ wx.cell? ⟨Y, 0, none⟩ = some (.int .i64 YI) ∧ wx.cell? ⟨Y, 1, none⟩ = some (.int .i64 0)) (first | (with_reducible exact held (cW _) (Below.refl _ _).drew) | (go_split_ands; with_reducible first | exact held (cW _) (below_then (by assumption : Below wm.heap.size wm _) (by assumption)) | exact held (cW _) (by assumption)))
    (first
      | ((go_at_call 11; refine (in_any _ _ _).mono ?_; rintro e wr ⟨rfl, br⟩))
      | ((go_at_call 12; refine (out_any _ _ _).mono ?_; rintro e wr ⟨rfl, br⟩))
      | ((go_at_call 10; refine (has_any _ _ (by omega) (by omega) (by omega) _).mono ?_; rintro e wr ⟨rfl, br⟩)))
  rename_i hH
  have hK := hH.1
  clear hH cW e1 e2 e3 e4 e5
  replace hB := below_then hB hK
  replace pX := pX.then hK
  replace pY := pY.then hK
  clear hK pP
  have FX : Hid (Fit XI 0) := ⟨by omega, by omega, by omega⟩
  have eX : 1152921504606846976 - A = XA := WAB.out.1.symm
  have eY : 1152921504606846976 - B = YB := WAB.out.2.symm
  have hAX : w.heap.size ≤ X := by omega
  obtain ⟨z0, z1, _, _⟩ := id pX
  obtain ⟨z2, z3, _, _⟩ := id pY
  rcases DG.out with ⟨t1, rfl, rfl, rfl⟩ | ⟨t1, t2, rfl, rfl, rfl⟩ | ⟨t1, t2, rfl, rfl, rfl⟩
  all_goals
    go_wp2_with (first
      | (go_at_call 10; refine (has_any _ _ (by omega) (by omega) (by omega) _).mono ?_; rintro e wr ⟨rfl, bn⟩; replace hB := below_then hB bn; replace pX := pX.then bn; clear bn)
      | (go_at_call 15; refine (move_miss X 0 _ 0 5 _ [] _ FX.out pX (readsP_none _ _ _ _) (fun k hk => absurd hk (Nat.not_lt_zero _))).mono ?_; rintro e wr ⟨rfl, cn, pn⟩; replace hB := cn.below hB hAX hB.size; clear cn pn)
      | (go_at_call 3; refine (purseRuns_any _).mono ?_; rintro e wr ⟨rfl, bn⟩; replace hB := below_then hB bn; clear bn))
    go_ret
    exact ⟨rfl, hB⟩
end Go.Proofs.Ytkjglnjneblomaa
