/-
  The walk of NotePlays.
-/
import Derived.Test.YtpfoimjmnmlnkaaNoteRunsWalk
import Derived.Test.YtpfoimjmnmlnkaaBook
import Derived.Test.YtpfoimjmnmlnkaaRowTerms
import Derived.Test.YtpfoimjmnmlnkaaRowPair
namespace Go.Proofs.Ytpfoimjmnmlnkaa
open Go.RowKit

theorem wf_le {n : Int} (h : (Lit.int .i64 n).wf = true) : n ≤ 9223372036854775807 := (Go.bounds_i64 h).2
theorem settle_to {b o : Nat} {rk og rt i q s d c t s' : Int} {w : World} (hN : Nt w b o rk og rt i q s d) (n0 : -9223372036854775808 ≤ s) (n1 : s ≤ 9223372036854775807) (e1 : upTo s c = t) (e2 : s - t = s') :
    Calls Try.prog 17 #[.pointer (some ⟨b, o, none⟩), .int .i64 c] w fun e w' => e = .returned (.int .i64 t) ∧ Chn b o w w' ∧ Nt w' b o rk og rt i q s' d := by
  subst e1 e2
  exact settle_any b o rk og rt i q s d c w n0 n1 hN
theorem owe_to {b o : Nat} {rk og rt i q s d c s' : Int} {ok : Bool} {w : World} (hN : Nt w b o rk og rt i q s d) (s0 : -9223372036854775808 ≤ s) (c1 : c ≤ 9223372036854775807) (e1 : mayOwe s c = ok) (e2 : (if ok then s + c else s) = s') :
    Calls Try.prog 16 #[.pointer (some ⟨b, o, none⟩), .int .i64 c] w fun e w' => e = .returned (.bool ok) ∧ Chn b o w w' ∧ Nt w' b o rk og rt i q s' d := by
  subst e1 e2
  exact owe_any b o rk og rt i q s d c w s0 c1 hN

set_option maxRecDepth 1000000 in
set_option maxHeartbeats 40000000 in
theorem notePlays_any (r g t : Int) (a1 : Option Addr) (len1 cap1 : Nat) (w : World) (_w0 : (Lit.int .i64 r).wf = true ∧ (Lit.int .i64 g).wf = true ∧ (Lit.int .i64 t).wf = true) (w1 : RowPW w a1 len1) :
    Calls Try.prog 4 #[.agg #[.int .i64 r, .int .i64 g, .int .i64 t], .slice a1 len1 cap1] w fun e w' => e = .returned (.bool true) ∧ Below w.heap.size w w' := by
  obtain ⟨hm, HC'⟩ := w1
  have HC : Hid (∀ i, i < len1 → ∃ b off x n, a1 = some ⟨b, off, none⟩ ∧ w.cell? ⟨b, off + i * 2, none⟩ = some (.int .i64 x) ∧ w.cell? ⟨b, off + i * 2 + 1, none⟩ = some (.int .i64 n) ∧ (Lit.int .i64 x).wf = true ∧ (Lit.int .i64 n).wf = true) := HC'
  clear HC'
  unfold maxLen at hm
  obtain ⟨G, h2⟩ : ∃ b, 0 + g % (1099511627776 - 0 + 1) = b := ⟨_, rfl⟩
  obtain ⟨R, h1⟩ : ∃ b, 0 + r % (7 - 0 + 1) = b := ⟨_, rfl⟩
  obtain ⟨T, h3⟩ : ∃ b, 0 + t % (5000 - 0 + 1) = b := ⟨_, rfl⟩
  have E1 : Hid (0 + r % (7 - 0 + 1) = R) := h1
  have E2 : Hid (0 + g % (1099511627776 - 0 + 1) = G) := h2
  have E3 : Hid (0 + t % (5000 - 0 + 1) = T) := h3
  have G0 : 0 ≤ G := by omega
  have G1 : G ≤ 1099511627776 := by omega
  have R0 : 0 ≤ R := by omega
  have R1 : R ≤ 7 := by omega
  have T0 : 0 ≤ T := by omega
  have T1 : T ≤ 5000 := by omega
  clear h1 h2 h3 _w0
  go_enter Try.func4, Try.ntmps4
  go_upto_region 1 with fail
  refine wp_letter (fun wx => Below w.heap.size w wx ∧ wx.cell? ⟨w.heap.size, 0, none⟩ = some (.int .i64 r) ∧ wx.cell? ⟨w.heap.size, 1, none⟩ = some (.int .i64 g) ∧ wx.cell? ⟨w.heap.size, 2, none⟩ = some (.int .i64 t) ∧ wx.frozen? ⟨w.heap.size, 0, none⟩ = false ∧ wx.frozen? ⟨w.heap.size, 1, none⟩ = false ∧ wx.frozen? ⟨w.heap.size, 2, none⟩ = false) ⟨below_alloc (Below.refl _ _) _, by simp [go_sem]⟩ ?_
  rintro W ⟨hB, c0, c1, c2, f0, f1, f2⟩
  go_cut [2] (fun p wx => p = .pointer (some ⟨w.heap.size, 0, none⟩) ∧ Below w.heap.size w wx ∧ wx.cell? ⟨w.heap.size, 0, none⟩ = some (.int .i64 R) ∧ wx.cell? ⟨w.heap.size, 1, none⟩ = some (.int .i64 G) ∧ wx.cell? ⟨w.heap.size, 2, none⟩ = some (.int .i64 T))
  case first =>
    as_aux_lemma =>
    go_region_with ((go_at_call 15; refine (within_any _ _ _ (by omega) (by omega) (by omega) (by omega) _).mono ?_; rintro e wq ⟨rfl, hq⟩; have hq := hq.symm; subst hq; (first | rw [E1.out] | rw [E2.out] | rw [E3.out])))
    all_goals
      go_wp2
      go_meet
      case rel => exact ⟨rfl, ((hB.drew.setCell (p := ⟨w.heap.size, 1, none⟩) (Nat.le_refl _) _).setCell (p := ⟨w.heap.size, 0, none⟩) (Nat.le_refl _) _).setCell (p := ⟨w.heap.size, 2, none⟩) (Nat.le_refl _) _, by simp (maxDischargeDepth := 12) [go_sem, *]⟩
  case rest =>
  clear hB c0 c1 c2 f0 f1 f2 W
  obtain ⟨rfl, hX, x0, x1, x2⟩ := hcut
  go_upto_region 3 with (go_at_call 8; refine (new_any _ _ _ _).mono ?_; rintro e w1 ⟨rfl, b1⟩; unfold noteV)
  refine wp_letter (fun wx => Below w.heap.size w wx ∧ ∃ A, w1.heap.size = A ∧ w.heap.size < A ∧ Nt wx A 0 R G T 0 0 0 0 ∧ wx.cell? ⟨w.heap.size, 0, none⟩ = some (.int .i64 R) ∧ wx.cell? ⟨w.heap.size, 1, none⟩ = some (.int .i64 G) ∧ wx.cell? ⟨w.heap.size, 2, none⟩ = some (.int .i64 T)) ?_ ?_
  · have z := World.block_lt_of_cell? wc ⟨w.heap.size, 0, none⟩ x0
    have b2 := below_alloc b1 (.cells #[.int .i64 R, .int .i64 G, .int .i64 T, .int .i64 0, .int .i64 0, .int .i64 0, .int .i64 0] 27)
    exact ⟨below_then hX b2, _, rfl, Nat.lt_of_lt_of_le z b1.size, Nt.fresh _ _ _ _ _ _ _ _ _, cell_keep b2 x0, cell_keep b2 x1, cell_keep b2 x2⟩
  clear hX x0 x1 x2
  rintro W ⟨hB, A, eA, hA, hN, x0, x1, x2⟩
  rw [eA]
  clear eA b1
  go_wp2
  go_loopw [6, 7, 8, 9] (fun p d s i wr => ∃ (k : Nat) (P D S : Int), k ≤ 30 ∧ i = .int .i64 k ∧ p = .int .i64 P ∧ d = .int .i64 D ∧ s = .int .i64 S ∧ 0 ≤ P ∧ 0 ≤ D ∧ P + D ≤ G ∧ 0 ≤ S ∧ S ≤ 1152921504606846976 ∧ Nt wr A 0 R G T P 0 S D ∧ (wr.cell? ⟨w.heap.size, 0, none⟩ = some (.int .i64 R) ∧ wr.cell? ⟨w.heap.size, 1, none⟩ = some (.int .i64 G) ∧ wr.cell? ⟨w.heap.size, 2, none⟩ = some (.int .i64 T)) ∧ Below w.heap.size w wr) (fun _ _ _ i _ => 30 - (intOf i).toNat)
  case atStart => exact ⟨0, 0, 0, 0, by omega, rfl, rfl, rfl, rfl, by omega, by omega, by omega, by omega, by omega, hN, ⟨x0, x1, x2⟩, hB⟩
  case round =>
  clear hB hN x0 x1 x2
  obtain ⟨k, P, D, S, hk, rfl, rfl, rfl, rfl, P0, D0, PD, S0, S1, hN, ⟨x0, x1, x2⟩, hB⟩ := hrel
  go_upto_region 5 with fail
  go_cut [35] (fun c wx => c = .bool (decide (k < len1 ∧ k < 30)) ∧ wr = wx)
  case first =>
    by_cases g1 : k < len1
    · by_cases g2 : k < 30
      · go_wp2
        go_meet
        case rel => exact ⟨by simp [g1]; omega, rfl⟩
      · go_wp2
        go_meet
        case rel => exact ⟨by simp [g1]; omega, rfl⟩
    · go_wp2
      go_meet
      case rel => exact ⟨by simp [g1], rfl⟩
  case rest =>
  obtain ⟨rfl, rfl⟩ := hcut
  by_cases gg : k < len1 ∧ k < 30
  · rw [decide_eq_true gg]
    obtain ⟨b, off, X, N, rfl, hc0, hc1, _, wN⟩ := HC.out k gg.1
    have N1 : N ≤ 9223372036854775807 := wf_le wN
    clear wN
    have hlb := World.block_lt_of_cell? w ⟨b, off + k * 2, none⟩ hc0
    replace hc0 : wr.cell? ⟨b, off + k * 2, none⟩ = some (.int .i64 X) := (hB.cell (p := ⟨b, off + k * 2, none⟩) hlb).trans hc0
    replace hc1 : wr.cell? ⟨b, off + k * 2 + 1, none⟩ = some (.int .i64 N) := (hB.cell (p := ⟨b, off + k * 2 + 1, none⟩) hlb).trans hc1
    obtain ⟨g1, g2⟩ := gg
    go_upto_region 8 with fail
    refine wp_letter (fun wx => Below w.heap.size w wx ∧ ∃ Q, wr.heap.size = Q ∧ A < Q ∧ Nt wx A 0 R G T P 0 S D ∧ (wx.cell? ⟨w.heap.size, 0, none⟩ = some (.int .i64 R) ∧ wx.cell? ⟨w.heap.size, 1, none⟩ = some (.int .i64 G) ∧ wx.cell? ⟨w.heap.size, 2, none⟩ = some (.int .i64 T)) ∧ wx.cell? ⟨Q, 0, none⟩ = some (.int .i64 X) ∧ wx.cell? ⟨Q, 1, none⟩ = some (.int .i64 N)) ?_ ?_
    · have b2 := below_alloc (Below.refl _ wr) (.cells #[.int .i64 X, .int .i64 N] 35)
      exact ⟨below_then hB b2, _, rfl, hN.lt, hN.then b2, ⟨cell_keep b2 x0, cell_keep b2 x1, cell_keep b2 x2⟩, by simp [go_sem]⟩
    clear hB hN x0 x1 x2 hc0 hc1 hlb
    rintro V ⟨hB, Q, eQ, hQ, hN, ⟨x0, x1, x2⟩, q0, q1⟩
    rw [eQ]
    clear eQ
    obtain ⟨M, hM⟩ : ∃ M, (if N < 0 then 0 else N) = M := ⟨_, rfl⟩
    have hM' : max N 0 = M := by rw [← hM]; split <;> omega
    have HM : Hid (max N 0 = M) := hM'
    go_upto_block 2 with fail
    clear hM hM'
    have HB : Hid (bal G P 0 D = G - P - D) := by show _ = _; unfold bal; omega
    have HCa : Hid (Calm G P 0 D) := ⟨⟨by omega, by omega, by omega⟩, by omega, by omega, by omega, by omega⟩
    go_cut [6, 7, 8] (fun p d s wx => ∃ P D S : Int, p = .int .i64 P ∧ d = .int .i64 D ∧ s = .int .i64 S ∧ 0 ≤ P ∧ 0 ≤ D ∧ P + D ≤ G ∧ 0 ≤ S ∧ S ≤ 1152921504606846976 ∧ Nt wx A 0 R G T P 0 S D ∧ (wx.cell? ⟨w.heap.size, 0, none⟩ = some (.int .i64 R) ∧ wx.cell? ⟨w.heap.size, 1, none⟩ = some (.int .i64 G) ∧ wx.cell? ⟨w.heap.size, 2, none⟩ = some (.int .i64 T)) ∧ Below w.heap.size w wx)
    case first =>
      by_cases k1 : X = 1
      · as_aux_lemma =>
        subst k1
        obtain ⟨Y, hY⟩ : ∃ Y, min M (G - P - D) = Y := ⟨_, rfl⟩
        have hY' : (if G - P - D < M then G - P - D else M) = Y := by rw [← hY]; split <;> omega
        have hU : upTo (bal G P 0 D) N = Y := by rw [HB.out, ← hY, ← HM.out]; unfold upTo; omega
        have Y0 : 0 ≤ Y := by have := HM.out; omega
        have Y1 : Y ≤ G - P - D := by omega
        have e1 : Hid ((if mayPut P (upTo (bal G P 0 D) N) then upTo (bal G P 0 D) N else 0) = Y) := by
          show _ = _
          rw [hU, if_pos (by simp [mayPut]; omega)]
        clear hU
        go_wp2_with (go_at_call 9; refine (pay_to hN HCa.out e1.out rfl).mono ?_; rintro e wn ⟨rfl, cn, pn⟩; replace hB := cn.below hB (by omega) hB.size; replace hN := pn; replace x0 := cn.far x0 (by omega); replace x1 := cn.far x1 (by omega); replace x2 := cn.far x2 (by omega); replace q0 := cn.far q0 (by omega); replace q1 := cn.far q1 (by omega); clear cn pn)
        go_meet
        case rel => exact ⟨P + Y, D, S, rfl, rfl, rfl, by omega, by omega, by omega, by omega, by omega, hN, ⟨x0, x1, x2⟩, hB⟩
      by_cases k2 : X = 2
      · as_aux_lemma =>
        subst k2
        obtain ⟨Y, hY⟩ : ∃ Y, min M (G - P - D) = Y := ⟨_, rfl⟩
        have hY' : (if G - P - D < M then G - P - D else M) = Y := by rw [← hY]; split <;> omega
        have e1 : Hid (upTo (bal G P 0 D) N = Y) := by show _ = _; rw [HB.out, ← hY, ← HM.out]; unfold upTo; omega
        have Y0 : 0 ≤ Y := by have := HM.out; omega
        have Y1 : Y ≤ G - P - D := by omega
        go_wp2_with (go_at_call 10; refine (write_to hN HCa.out e1.out rfl).mono ?_; rintro e wn ⟨rfl, cn, pn⟩; replace hB := cn.below hB (by omega) hB.size; replace hN := pn; replace x0 := cn.far x0 (by omega); replace x1 := cn.far x1 (by omega); replace x2 := cn.far x2 (by omega); replace q0 := cn.far q0 (by omega); replace q1 := cn.far q1 (by omega); clear cn pn)
        go_meet
        case rel => exact ⟨P, D + Y, S, rfl, rfl, rfl, by omega, by omega, by omega, by omega, by omega, hN, ⟨x0, x1, x2⟩, hB⟩
      by_cases k3 : X = 3
      · as_aux_lemma =>
        subst k3
        obtain ⟨Y, hY⟩ : ∃ Y, min M D = Y := ⟨_, rfl⟩
        have hY' : (if D < M then D else M) = Y := by rw [← hY]; split <;> omega
        have e1 : Hid (upTo D N = Y) := by show _ = _; rw [← hY, ← HM.out]; unfold upTo; omega
        have Y0 : 0 ≤ Y := by have := HM.out; omega
        have Y1 : Y ≤ D := by omega
        go_wp2_with (go_at_call 11; refine (restore_to hN HCa.out e1.out rfl).mono ?_; rintro e wn ⟨rfl, cn, pn⟩; replace hB := cn.below hB (by omega) hB.size; replace hN := pn; replace x0 := cn.far x0 (by omega); replace x1 := cn.far x1 (by omega); replace x2 := cn.far x2 (by omega); replace q0 := cn.far q0 (by omega); replace q1 := cn.far q1 (by omega); clear cn pn)
        go_meet
        case rel => exact ⟨P, D - Y, S, rfl, rfl, rfl, by omega, by omega, by omega, by omega, by omega, hN, ⟨x0, x1, x2⟩, hB⟩
      by_cases k4 : X = 4
      · as_aux_lemma =>
        subst k4
        by_cases n0 : 0 ≤ N
        · by_cases n1 : N ≤ 1152921504606846976 - S
          · have e1 : Hid (mayOwe S N = true) := by show _ = _; simp [mayOwe]; omega
            go_wp2_with (go_at_call 16; refine (owe_to (s' := S + N) hN (by omega) N1 e1.out rfl).mono ?_; rintro e wn ⟨rfl, cn, pn⟩; replace hB := cn.below hB (by omega) hB.size; replace hN := pn; replace x0 := cn.far x0 (by omega); replace x1 := cn.far x1 (by omega); replace x2 := cn.far x2 (by omega); replace q0 := cn.far q0 (by omega); replace q1 := cn.far q1 (by omega); clear cn pn)
            go_meet
            case rel => exact ⟨P, D, S + N, rfl, rfl, rfl, by omega, by omega, by omega, by omega, by omega, hN, ⟨x0, x1, x2⟩, hB⟩
          · have e1 : Hid (mayOwe S N = false) := by show _ = _; simp [mayOwe]; omega
            go_wp2_with (go_at_call 16; refine (owe_to (s' := S) hN (by omega) N1 e1.out rfl).mono ?_; rintro e wn ⟨rfl, cn, pn⟩; replace hB := cn.below hB (by omega) hB.size; replace hN := pn; replace x0 := cn.far x0 (by omega); replace x1 := cn.far x1 (by omega); replace x2 := cn.far x2 (by omega); replace q0 := cn.far q0 (by omega); replace q1 := cn.far q1 (by omega); clear cn pn)
            go_meet
            case rel => exact ⟨P, D, S, rfl, rfl, rfl, by omega, by omega, by omega, by omega, by omega, hN, ⟨x0, x1, x2⟩, hB⟩
        · have e1 : Hid (mayOwe S N = false) := by show _ = _; simp [mayOwe]; omega
          go_wp2_with (go_at_call 16; refine (owe_to (s' := S) hN (by omega) N1 e1.out rfl).mono ?_; rintro e wn ⟨rfl, cn, pn⟩; replace hB := cn.below hB (by omega) hB.size; replace hN := pn; replace x0 := cn.far x0 (by omega); replace x1 := cn.far x1 (by omega); replace x2 := cn.far x2 (by omega); replace q0 := cn.far q0 (by omega); replace q1 := cn.far q1 (by omega); clear cn pn)
          go_meet
          case rel => exact ⟨P, D, S, rfl, rfl, rfl, by omega, by omega, by omega, by omega, by omega, hN, ⟨x0, x1, x2⟩, hB⟩
      by_cases k5 : X = 5
      · as_aux_lemma =>
        subst k5
        obtain ⟨Y, hY⟩ : ∃ Y, min M S = Y := ⟨_, rfl⟩
        have hY' : (if S < M then S else M) = Y := by rw [← hY]; split <;> omega
        have e1 : Hid (upTo S N = Y) := by show _ = _; rw [← hY, ← HM.out]; unfold upTo; omega
        have Y0 : 0 ≤ Y := by have := HM.out; omega
        have Y1 : Y ≤ S := by omega
        go_wp2_with (go_at_call 17; refine (settle_to hN (by omega) (by omega) e1.out rfl).mono ?_; rintro e wn ⟨rfl, cn, pn⟩; replace hB := cn.below hB (by omega) hB.size; replace hN := pn; replace x0 := cn.far x0 (by omega); replace x1 := cn.far x1 (by omega); replace x2 := cn.far x2 (by omega); replace q0 := cn.far q0 (by omega); replace q1 := cn.far q1 (by omega); clear cn pn)
        go_meet
        case rel => exact ⟨P, D, S - Y, rfl, rfl, rfl, by omega, by omega, by omega, by omega, by omega, hN, ⟨x0, x1, x2⟩, hB⟩
      · go_wp2
        go_meet
        case rel => exact ⟨P, D, S, rfl, rfl, rfl, by omega, by omega, by omega, by omega, by omega, hN, ⟨x0, x1, x2⟩, hB⟩
    case rest =>
    clear HB HCa HM hB hN x0 x1 x2 q0 q1 P0 D0 PD S0 S1 N1
    obtain ⟨P', D', S', rfl, rfl, rfl, P0, D0, PD, S0, S1, hN, ⟨x0, x1, x2⟩, hB⟩ := hcut
    obtain ⟨L, hL⟩ : ∃ L, G - P' = L := ⟨_, rfl⟩
    obtain ⟨Z, hZ⟩ : ∃ Z, L - D' = Z := ⟨_, rfl⟩
    have B1 : Hid (bal G P' 0 D' = Z) := by show _ = _; unfold bal; omega
    have C1 : Hid (Calm G P' 0 D') := ⟨⟨by omega, by omega, by omega⟩, by omega, by omega, by omega, by omega⟩
    have RR : Hid (rightN R G T P' 0 S' D' = true) := by show _ = _; simp [rightN, inB]; omega
    have H1 : Hid (P' - 0 = P') := by show _ = _; omega
    have r1 : IntKind.i64.wrap (G - P') = L := by rw [wrap_in _ (by omega) (by omega)]; omega
    have r2 : IntKind.i64.wrap (L - D') = Z := by rw [wrap_in _ (by omega) (by omega)]; omega
    clear hL hZ
    have cW : ∀ wx, Below wc.heap.size wc wx → wx.cell? ⟨A, 0, none⟩ = some (.int .i64 R) ∧ wx.cell? ⟨A, 1, none⟩ = some (.int .i64 G) ∧ wx.cell? ⟨A, 2, none⟩ = some (.int .i64 T) ∧ wx.cell? ⟨A, 3, none⟩ = some (.int .i64 (P')) ∧ wx.cell? ⟨A, 4, none⟩ = some (.int .i64 0) ∧ wx.cell? ⟨A, 5, none⟩ = some (.int .i64 (S')) ∧ wx.cell? ⟨A, 6, none⟩ = some (.int .i64 (D')) ∧ wx.cell? ⟨w.heap.size, 0, none⟩ = some (.int .i64 R) ∧ wx.cell? ⟨w.heap.size, 1, none⟩ = some (.int .i64 G) ∧ wx.cell? ⟨w.heap.size, 2, none⟩ = some (.int .i64 T) := fun wx bx => by
      have b := hN.then bx
      exact ⟨b.c0, b.c1, b.c2, b.c3, b.c4, b.c5, b.c6, cell_keep bx x0, cell_keep bx x1, cell_keep bx x2⟩
    go_upto_region 33 with fail
    as_aux_lemma =>
    go_region_held3 (fun wx => Below wc.heap.size wc wx ∧ wx.cell? ⟨A, 0, none⟩ = some (.int .i64 R) ∧ wx.cell? ⟨A, 1, none⟩ = some (.int .i64 G) ∧ wx.cell? ⟨A, 2, none⟩ = some (.int .i64 T) ∧ wx.cell? ⟨A, 3, none⟩ = some (.int .i64 (P')) ∧ wx.cell? ⟨A, 4, none⟩ = some (.int .i64 0) ∧ wx.cell? ⟨A, 5, none⟩ = some (.int .i64 (S')) ∧ wx.cell? ⟨A, 6, none⟩ = some (.int .i64 (D')) ∧ wx.cell? ⟨w.heap.size, 0, none⟩ = some (.int .i64 R) ∧ wx.cell? ⟨w.heap.size, 1, none⟩ = some (.int .i64 G) ∧ wx.cell? ⟨w.heap.size, 2, none⟩ = some (.int .i64 T)) (first | (with_reducible exact held (cW _) (Below.refl _ _).drew) | (go_split_ands; with_reducible first | exact held (cW _) (below_then (by assumption : Below wc.heap.size wc _) (by assumption)) | exact held (cW _) (by assumption)))
      (first
        | ((go_at_call 13; refine (has_to C1.out.fit H1.out).mono ?_; rintro e wx ⟨rfl, br⟩))
        | ((go_at_call 18; refine (in_any _ _ _).mono ?_; rintro e wx ⟨rfl, br⟩))
        | ((go_at_call 19; refine (out_any _ _ _).mono ?_; rintro e wx ⟨rfl, br⟩))
        | ((go_at_call 12; refine (balance_to C1.out B1.out).mono ?_; rintro e wx ⟨rfl, br⟩))
        | ((go_at_call 14; refine (right_to C1.out.fit RR.out).mono ?_; rintro e wx ⟨rfl, br⟩)))
    rename_i hH
    have hE := hH.1
    clear hH cW r1 r2
    go_wp2
    go_roundw
    case rel => exact ⟨k + 1, P', D', S', by omega, by go_num, rfl, rfl, rfl, P0, D0, PD, S0, S1, hN.then hE, ⟨cell_keep hE x0, cell_keep hE x1, cell_keep hE x2⟩, below_then hB hE⟩
    case measure => simp [intOf]; omega
  · rw [decide_eq_false gg]
    clear gg HC
    go_wp2_with (go_at_call 3; refine (noteRuns_any _).mono ?_; rintro e wn ⟨rfl, bn⟩)
    go_ret
    exact ⟨rfl, below_then hB bn⟩
end Go.Proofs.Ytpfoimjmnmlnkaa
