/-
  The walk of PurseCopies.
-/
import Derived.Test.YtkjglnjneblomaaPurseRunsWalk
import Derived.Test.YtkjglnjneblomaaBook
import Derived.Test.YtkjglnjneblomaaMem
import Derived.Test.YtkjglnjneblomaaLow
namespace Go.Proofs.Ytkjglnjneblomaa
open Go.RowKit

/-- All of W is there, and the empty purse at Z. -/
def Still (W : World) (Z : Nat) (wx : World) : Prop := Below W.heap.size W wx ∧ Pur wx Z 0 0 0
theorem Still.nxt {W wo wn : World} {Z : Nat} (b : Below wo.heap.size wo wn) (h : Still W Z wo) : Still W Z wn := ⟨below_then h.1 b, h.2.then b⟩
theorem Still.took {W wo wn : World} {Z : Nat} (hZ : W.heap.size ≤ Z) (c : Chg Z 0 wo wn) (p : Pur wn Z 0 0 0) (h : Still W Z wo) : Still W Z wn := ⟨c.below h.1 hZ h.1.size, p⟩
theorem Still.pur {W wo : World} {Z : Nat} (h : Still W Z wo) : Pur wo Z 0 0 0 := h.2
theorem Still.drew {W wo : World} {Z : Nat} (h : Still W Z wo) : Still W Z wo.drew := h.nxt (Below.refl _ _).drew

set_option maxRecDepth 100000 in
set_option maxHeartbeats 4000000 in
theorem purseCopies_any (first : Int) (a1 : Option Addr) (len1 cap1 : Nat) (z1 : List Int) (a2 : Option Addr) (len2 cap2 : Nat) (z2 : List Int) (w : World) (_w0 : (Lit.int .i64 first).wf = true) (hr1 : Row .i64 w a1 len1 cap1 z1) (hr2 : Row .i64 w a2 len2 cap2 z2) :
    Calls Try.prog 6 #[.int .i64 first, .slice a1 len1 cap1, .slice a2 len2 cap2] w fun e w' => e = .returned (.bool true) ∧ Below w.heap.size w w' := by
  obtain ⟨F, h1⟩ : ∃ b, 0 + first % (1099511627776 - 0 + 1) = b := ⟨_, rfl⟩
  have g1 : 0 + first % 1099511627777 = F := h1
  have E1 : Hid (0 + first % (1099511627776 - 0 + 1) = F) := h1
  have F0 : 0 ≤ F := by omega
  have F1 : F ≤ 1099511627776 := by omega
  have O1 : Hid (ofN F = F) := ofN_in (by omega) (by omega)
  obtain ⟨_, hm1, hz1, hc1⟩ := hr1.cells
  obtain ⟨_, hm2, hz2, hc2⟩ := hr2.cells
  have HC1 : Hid (∀ i, i < len1 → ∃ b off, a1 = some ⟨b, off, none⟩ ∧ w.cell? ⟨b, off + i, none⟩ = some (.int .i64 (z1.getD i 0))) := hc1
  have HC2 : Hid (∀ i, i < len2 → ∃ b off, a2 = some ⟨b, off, none⟩ ∧ w.cell? ⟨b, off + i, none⟩ = some (.int .i64 (z2.getD i 0))) := hc2
  have l1 : len1 ≤ 9223372036854775807 := by unfold maxLen at hm1; omega
  have l2 : len2 ≤ 9223372036854775807 := by unfold maxLen at hm2; omega
  clear h1 g1 _w0 hr1 hr2 hc1 hc2 hm1 hm2 hz1 hz2
  go_enter Try.func6, Try.ntmps6
  go_upto_region 3 with (first
    | (go_at_call 16; refine (within_any _ _ _ (by omega) (by omega) (by omega) (by omega) _).mono ?_; rintro e wq ⟨rfl, hq⟩; have hq := hq.symm; subst hq; rw [E1.out])
    | (go_at_call 8; refine (of_any _ _).mono ?_; rw [O1.out]; rintro e w1 ⟨rfl, q1⟩))
  refine wp_letter (fun wx => Below w.heap.size w wx ∧ ∃ P Q, w1.heap.size = P ∧ w1.heap.size + 1 = Q ∧ w.heap.size ≤ P ∧ P < Q ∧ Pur wx P 0 F 0 ∧ Pur wx Q 0 F 0) ?_ ?_
  · refine ⟨below_alloc (below_alloc q1 _) _, _, _, rfl, rfl, q1.size, by omega, (Pur.fresh w1 F 0 _).then (below_alloc (Below.refl _ _) _), ?_⟩
    have := Pur.fresh (w1.alloc (.cells #[.int .i64 F, .int .i64 0] 23)) F 0 23
    simpa using this
  rintro W ⟨hB, P, Q, eP, eQ, hA, hPQ, hP, hQ⟩
  rw [eQ, eP]
  clear eP eQ q1
  obtain ⟨x0, x1, _, _⟩ := id hP
  go_wp2_with (go_at_call 11; refine (in_any _ _ _).mono ?_; rintro e wn ⟨rfl, bn⟩; replace hB := below_then hB bn; replace hP := hP.then bn; replace hQ := hQ.then bn; clear bn)
  clear x0 x1
  go_loopw [9, 10, 11] (fun s t i wr => ∃ (k : Nat) (I O : Int), k ≤ 20 ∧ i = .int .i64 k ∧ s = .int .i64 I ∧ t = .int .i64 O ∧ Fit I O ∧ I ≤ F + k * 1073741824 ∧ Pur wr P 0 I O ∧ Pur wr Q 0 F 0 ∧ Below w.heap.size w wr) (fun _ _ i _ => 20 - (intOf i).toNat)
  case atStart => exact ⟨0, F, 0, by omega, rfl, rfl, rfl, ⟨by omega, by omega, by omega⟩, by omega, hP, hQ, hB⟩
  case round =>
  clear hB hP hQ
  obtain ⟨k, I, O, hk, rfl, rfl, rfl, hF, hI, hP, hQ, hB⟩ := hrel
  go_upto_region 5 with fail
  go_cut [28] (fun c wx => c = .bool (decide (k < len1 ∧ k < 20)) ∧ wr = wx)
  case first =>
    by_cases g1 : k < len1
    · by_cases g2 : k < 20
      · go_wp2
        go_meet
        case rel => exact ⟨by simp [g1]; omega, rfl⟩
      · go_wp2
        go_meet
        case rel => exact ⟨by simp [g1]; omega, rfl⟩
    · go_wp2
      go_meet
      case rel => exact ⟨by simp [g1], rfl⟩
  case rest =>
  obtain ⟨rfl, rfl⟩ := hcut
  by_cases g : k < len1 ∧ k < 20
  · obtain ⟨b, off, rfl, hcell⟩ := HC1.out k g.1
    have hcx : wr.cell? ⟨b, off + k, none⟩ = some (.int .i64 (z1.getD k 0)) := (hB.cell (p := ⟨b, off + k, none⟩) (World.block_lt_of_cell? w ⟨b, off + k, none⟩ hcell)).trans hcell
    rw [decide_eq_true g]
    obtain ⟨g1, g2⟩ := g
    generalize z1.getD k 0 = x at hcx
    clear hcell
    obtain ⟨N, hN⟩ : ∃ N, 0 + x % (1073741824 - 0 + 1) = N := ⟨_, rfl⟩
    have gN : 0 + x % 1073741825 = N := hN
    have EN : Hid (0 + x % (1073741824 - 0 + 1) = N) := hN
    have N0 : 0 ≤ N := by omega
    have N1 : N ≤ 1073741824 := by omega
    have HF : Hid (Fit I O) := hF
    obtain ⟨o0, oi, i1⟩ := hF
    clear hN gN HC2
    by_cases par : k % 2 = 0
    · have hb : bits .and .i64 (k : Int) 1 = 0 := by rw [mask_one _ (by omega) (by omega)]; omega
      have hm : mayPut I N = true := by simp [mayPut]; omega
      have HM : Hid (mayPut I N = true) := hm
      clear hm par
      go_wp2_with (first
        | (go_at_call 16; refine (within_any _ _ _ (by omega) (by omega) (by omega) (by omega) _).mono ?_; rintro e wq ⟨rfl, hq⟩; have hq := hq.symm; subst hq; rw [EN.out])
        | (go_at_call 13; refine (put_yes P 0 I O N _ (by omega) i1 hP HM.out).mono ?_; rintro e wn ⟨rfl, cn, pn⟩))
      go_roundw
      case rel => exact ⟨k + 1, I + N, O, by omega, by go_num, rfl, rfl, HF.out.put HM.out, by push_cast; omega, pn, hQ.chg cn (Or.inl (by omega)), cn.below hB hA hB.size⟩
      case measure => simp [intOf]; omega
    · have hb : bits .and .i64 (k : Int) 1 = 1 := by rw [mask_one _ (by omega) (by omega)]; omega
      obtain ⟨t, ht⟩ : ∃ t, goes I O N = t := ⟨_, rfl⟩
      obtain ⟨t0, t1⟩ := goes_bd (n := N) HF.out
      have HF2 := HF.out.took N
      rw [ht] at t0 t1 HF2
      have HT : Hid (goes I O N = t) := ht
      clear ht par
      go_wp2_with (first
        | (go_at_call 16; refine (within_any _ _ _ (by omega) (by omega) (by omega) (by omega) _).mono ?_; rintro e wq ⟨rfl, hq⟩; have hq := hq.symm; subst hq; rw [EN.out])
        | (go_at_call 9; refine (take_to hP HF.out HT.out rfl).mono ?_; rintro e wn ⟨rfl, cn, pn⟩))
      go_roundw
      case rel => exact ⟨k + 1, I, O + t, by omega, by go_num, rfl, rfl, HF2, by push_cast; omega, pn, hQ.chg cn (Or.inl (by omega)), cn.below hB hA hB.size⟩
      case measure => simp [intOf]; omega
  · rw [decide_eq_false g]
    clear g hI HC1
    go_wp2
    go_loopw [13] (fun i wx => ∃ (k : Nat) (J U : Int), k ≤ 20 ∧ i = .int .i64 k ∧ Fit J U ∧ J ≤ F + k * 1073741824 ∧ Pur wx P 0 I O ∧ Pur wx Q 0 J U ∧ Below w.heap.size w wx) (fun i _ => 20 - (intOf i).toNat)
    case atStart => exact ⟨0, F, 0, by omega, rfl, ⟨by omega, by omega, by omega⟩, by omega, hP, hQ, hB⟩
    case round =>
    clear hB hP hQ hk
    obtain ⟨j, J, U, hk, rfl, hG, hJ, hP, hQ, hB⟩ := hrel
    go_upto_region 14 with fail
    go_cut [56] (fun c wx => c = .bool (decide (j < len2 ∧ j < 20)) ∧ wr = wx)
    case first =>
      by_cases g1 : j < len2
      · by_cases g2 : j < 20
        · go_wp2
          go_meet
          case rel => exact ⟨by simp [g1]; omega, rfl⟩
        · go_wp2
          go_meet
          case rel => exact ⟨by simp [g1]; omega, rfl⟩
      · go_wp2
        go_meet
        case rel => exact ⟨by simp [g1], rfl⟩
    case rest =>
    obtain ⟨rfl, rfl⟩ := hcut
    by_cases g : j < len2 ∧ j < 20
    · obtain ⟨b, off, rfl, hcell⟩ := HC2.out j g.1
      have hcx : wr.cell? ⟨b, off + j, none⟩ = some (.int .i64 (z2.getD j 0)) := (hB.cell (p := ⟨b, off + j, none⟩) (World.block_lt_of_cell? w ⟨b, off + j, none⟩ hcell)).trans hcell
      rw [decide_eq_true g]
      obtain ⟨g1, g2⟩ := g
      generalize z2.getD j 0 = x at hcx
      clear hcell
      obtain ⟨N, hN⟩ : ∃ N, 0 + x % (1073741824 - 0 + 1) = N := ⟨_, rfl⟩
      have gN : 0 + x % 1073741825 = N := hN
      have EN : Hid (0 + x % (1073741824 - 0 + 1) = N) := hN
      have N0 : 0 ≤ N := by omega
      have N1 : N ≤ 1073741824 := by omega
      have HG : Hid (Fit J U) := hG
      obtain ⟨o0, oi, i1⟩ := hG
      have hm : mayPut J N = true := by simp [mayPut]; omega
      have HM : Hid (mayPut J N = true) := hm
      have hQA : w.heap.size ≤ Q := by omega
      clear hN gN hm
      by_cases par : j % 4 = 3
      · have hb : bits .and .i64 (j : Int) 3 = 3 := by rw [mask_two _ (by omega) (by omega)]; omega
        clear par
        go_wp2_with (first
          | (go_at_call 16; refine (within_any _ _ _ (by omega) (by omega) (by omega) (by omega) _).mono ?_; rintro e wq ⟨rfl, hq⟩; have hq := hq.symm; subst hq; rw [EN.out])
          | (go_at_call 13; refine (put_yes Q 0 J U N _ (by omega) i1 hQ HM.out).mono ?_; rintro e wn ⟨rfl, cn, pn⟩)
          | (go_at_call 14; refine (all_any Q 0 (J + N) U _ (HG.out.put HM.out) pn).mono ?_; rintro e wm ⟨rfl, cm, pm⟩))
        go_roundw
        case rel => exact ⟨j + 1, J + N, J + N, by omega, by go_num, ⟨by omega, by omega, by omega⟩, by push_cast; omega, (hP.chg cn (Or.inl (by omega))).chg cm (Or.inl (by omega)), pm, cm.below (cn.below hB hQA hB.size) hQA (cn.below hB hQA hB.size).size⟩
        case measure => simp [intOf]; omega
      · have hb : (bits .and .i64 (j : Int) 3 == 3) = false := by rw [mask_two _ (by omega) (by omega)]; simp; omega
        clear par
        go_wp2_with (first
          | (go_at_call 16; refine (within_any _ _ _ (by omega) (by omega) (by omega) (by omega) _).mono ?_; rintro e wq ⟨rfl, hq⟩; have hq := hq.symm; subst hq; rw [EN.out])
          | (go_at_call 13; refine (put_yes Q 0 J U N _ (by omega) i1 hQ HM.out).mono ?_; rintro e wn ⟨rfl, cn, pn⟩))
        go_roundw
        case rel => exact ⟨j + 1, J + N, U, by omega, by go_num, HG.out.put HM.out, by push_cast; omega, hP.chg cn (Or.inl (by omega)), pn, cn.below hB hQA hB.size⟩
        case measure => simp [intOf]; omega
    · rw [decide_eq_false g]
      clear g hJ HC2
      go_upto_region 20 with fail
      refine wp_letter (fun wx => ∃ Z, wr.heap.size = Z ∧ Still wr Z wx) ?_ ?_
      · exact ⟨_, rfl, below_alloc (Below.refl _ _) _, Pur.fresh _ _ _ _⟩
      rintro V ⟨Z, eZ, hS⟩
      have hZ : wr.heap.size ≤ Z := by omega
      rw [eZ]
      clear eZ
      have cS : ∀ wx, Still wr Z wx → wx.cell? ⟨P, 0, none⟩ = some (.int .i64 I) ∧ wx.cell? ⟨P, 1, none⟩ = some (.int .i64 O) ∧ wx.cell? ⟨Q, 0, none⟩ = some (.int .i64 J) ∧ wx.cell? ⟨Q, 1, none⟩ = some (.int .i64 U) ∧ wx.cell? ⟨Z, 0, none⟩ = some (.int .i64 0) ∧ wx.cell? ⟨Z, 1, none⟩ = some (.int .i64 0) := fun wx s => ⟨(hP.then s.1).c0, (hP.then s.1).c1, (hQ.then s.1).c0, (hQ.then s.1).c1, s.2.c0, s.2.c1⟩
      obtain ⟨o0, oi, i1⟩ := hF
      obtain ⟨u0, uj, j1⟩ := hG
      have hd : decide (U ≤ J) = true := decide_eq_true uj
      have hd' : decide (J ≥ U) = true := decide_eq_true uj
      have hwr : IntKind.i64.wrap (I - O) = I - O := wrap_in _ (by omega) (by omega)
      have f0 : Hid (Fit 0 0) := by show Fit _ _; constructor <;> omega
      clear u0 uj j1
      go_region_held3 (fun wx => Still wr Z wx ∧ wx.cell? ⟨P, 0, none⟩ = some (.int .i64 I) ∧ wx.cell? ⟨P, 1, none⟩ = some (.int .i64 O) ∧ wx.cell? ⟨Q, 0, none⟩ = some (.int .i64 J) ∧ wx.cell? ⟨Q, 1, none⟩ = some (.int .i64 U) ∧ wx.cell? ⟨Z, 0, none⟩ = some (.int .i64 0) ∧ wx.cell? ⟨Z, 1, none⟩ = some (.int .i64 0)) (first | (with_reducible exact held (cS _) hS.drew) | (go_split_ands; with_reducible first | exact held (cS _) (Still.nxt (by assumption) (by assumption)) | exact held (cS _) (Still.took hZ (by assumption) (by assumption) (by assumption)) | exact held (cS _) (by assumption)))
        (first
          | ((go_at_call 11; refine (in_any _ _ _).mono ?_; rintro e wm ⟨rfl, bm⟩))
          | ((go_at_call 12; refine (out_any _ _ _).mono ?_; rintro e wm ⟨rfl, bm⟩))
          | ((go_at_call 10; refine (has_any _ _ (by omega) (by omega) (by omega) _).mono ?_; rintro e wm ⟨rfl, bm⟩))
          | ((go_at_call 9; go_split_ands; refine (take_to (i := 0) (q := 0) (t := 0) (q' := 0) (Still.pur (by assumption : Still wr Z _)) f0.out (by decide) rfl).mono ?_; rintro e wm ⟨rfl, cm, pm⟩))
          | ((go_at_call 3; refine (purseRuns_any _).mono ?_; rintro e wm ⟨rfl, bm⟩)))
      rename_i hH
      have hE := hH.1.1
      clear hH
      go_wp2
      go_ret
      exact ⟨rfl, below_then hB hE⟩
end Go.Proofs.Ytkjglnjneblomaa
