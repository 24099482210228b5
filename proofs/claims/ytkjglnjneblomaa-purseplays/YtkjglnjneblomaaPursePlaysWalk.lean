/-
  The walk of PursePlays.
-/
import Derived.Test.YtkjglnjneblomaaPurseRunsWalk
import Derived.Test.YtkjglnjneblomaaRowPair
namespace Go.Proofs.Ytkjglnjneblomaa
open Go.RowKit

theorem ofN_no {n : Int} (h : n < 0 ∨ 1152921504606846976 < n) : ofN n = 0 := by
  have : mayPut 0 n = false := by simp [mayPut]; omega
  unfold ofN
  rw [this]
  rfl

/-- Move to a nil one and to another purse. -/
theorem move_nil_to (P Q g : Nat) (I U K N T : Int) (w : World) (hP : Pur w P 0 I U) (hQ : Pur w Q 0 K 0) (hF : Fit I U) (hK : Fit K 0) (hne : P ≠ Q) (hg : g ≠ P) (hT : goes I U N = T)
    (h0 : w.cell? ⟨g, 0, none⟩ = some (.pointer none)) (h1 : w.cell? ⟨g, 1, none⟩ = some (.pointer (some ⟨Q, 0, none⟩))) :
    Calls Try.prog 15 #[.int .i64 N, .pointer (some ⟨P, 0, none⟩), .slice (some ⟨g, 0, none⟩) 2 2] w fun e w' =>
      e = .returned (.int .i64 (if 1152921504606846976 - K < T then 0 else T)) ∧ Pur w' P 0 I (U + (if 1152921504606846976 - K < T then 0 else T)) ∧ Pur w' Q 0 (K + (if 1152921504606846976 - K < T then 0 else T)) 0 ∧
      ∀ C a, Below C a w → C ≤ P → C ≤ Q → C ≤ w.heap.size → Below C a w' := by
  have hr : ReadsP w (.slice (some ⟨g, 0, none⟩) 2 2) P [none, some (Q, 0)] := readsP_two hg h0 h1
  have hb := goes_bd (n := N) hF
  rw [hT] at hb
  have k1 := hK.i0
  have k2 := hK.i1
  by_cases c : 1152921504606846976 - K < T
  · rw [if_pos c, Int.add_zero, Int.add_zero]
    have hm : mayPut K (goes I U N) = false := by rw [hT]; simp [mayPut]; omega
    refine (move_miss P 0 I U N _ _ w hF hP hr (fun k hk => by
      match k, hk with
      | 0, _ => exact Or.inl rfl
      | 1, _ => exact Or.inr ⟨Q, 0, K, 0, rfl, hQ, k1, k2, hm, Or.inl hne.symm⟩)).mono ?_
    rintro e w' ⟨rfl, c1, p1⟩
    exact ⟨rfl, p1, hQ.chg c1 (Or.inl hne.symm), fun C a h cP _ hs => c1.below h cP hs⟩
  · rw [if_neg c]
    have hm : mayPut K (goes I U N) = true := by rw [hT]; simp [mayPut]; omega
    refine (move_hit P 0 I U N _ _ 1 Q 0 K 0 w hF hP hr (by simp) (fun k hk => match k, hk with | 0, _ => Or.inl rfl) ⟨rfl, hQ, k1, k2, hm, Or.inl hne.symm⟩).mono ?_
    rintro e w' ⟨rfl, w1, c1, p1, c2, p2⟩
    rw [hT] at p1 p2 ⊢
    exact ⟨rfl, p1.chg c2 (Or.inl hne), p2, fun C a h cP cQ hs => c2.below (c1.below h cP hs) cQ (Nat.le_trans hs c1.size)⟩

theorem Fit.putAny {i q : Int} (h : Fit i q) (n : Int) : Fit (if mayPut i n = true then i + n else i) q := by
  split
  · exact h.put (by assumption)
  · exact h
/-- A cell of another block. -/
theorem Chg.far {b o c j : Nat} {v : Value} {w w' : World} (k : Chg b o w w') (h : w.cell? ⟨c, j, none⟩ = some v) (hne : c ≠ b) : w'.cell? ⟨c, j, none⟩ = some v :=
  (World.cell?_of_block (w := w) (a := ⟨c, j, none⟩) (k.block c (World.block_lt_of_cell? w ⟨c, j, none⟩ h) hne)).trans h

set_option maxRecDepth 100000 in
set_option maxHeartbeats 4000000 in
theorem pursePlays_any (first other : Int) (a1 : Option Addr) (len1 cap1 : Nat) (w : World) (_w0 : (Lit.int .i64 first).wf = true) (_w1 : (Lit.int .i64 other).wf = true) (hr : RowP w a1 len1) :
    Calls Try.prog 4 #[.int .i64 first, .int .i64 other, .slice a1 len1 cap1] w fun e w' => e = .returned (.bool true) ∧ Below w.heap.size w w' := by
  obtain ⟨hm, hc⟩ := hr
  have l1 : len1 ≤ 9223372036854775807 := by unfold maxLen at hm; omega
  have HC : Hid (∀ i, i < len1 → ∃ b off x n, a1 = some ⟨b, off, none⟩ ∧ w.cell? ⟨b, off + i * 2, none⟩ = some (.int .i64 x) ∧ w.cell? ⟨b, off + i * 2 + 1, none⟩ = some (.int .i64 n)) := hc
  clear hc hm _w0 _w1
  obtain ⟨F, hF⟩ : ∃ F, ofN first = F := ⟨_, rfl⟩
  obtain ⟨E, hE⟩ : ∃ F, ofN other = F := ⟨_, rfl⟩
  have HF : Hid (ofN first = F) := hF
  have HE : Hid (ofN other = E) := hE
  have fF : Hid (Fit F 0) := hF ▸ ofN_fit first
  have fE : Hid (Fit E 0) := hE ▸ ofN_fit other
  clear hF hE
  go_enter Try.func4, Try.ntmps4
  go_upto_region 2 with (go_at_call 8; first
    | (refine (of_any first _).mono ?_; rw [HF.out]; rintro e w1 ⟨rfl, q1⟩)
    | (refine (of_any other _).mono ?_; rw [HE.out]; rintro e w2 ⟨rfl, q2⟩))
  refine wp_letter (fun wx => Below w.heap.size w wx ∧ ∃ P Q, w2.heap.size = P ∧ w2.heap.size + 1 = Q ∧ w.heap.size ≤ P ∧ P < Q ∧ Pur wx P 0 F 0 ∧ Pur wx Q 0 E 0) ?_ ?_
  · have z1 := q1.size
    have z2 := q2.size
    refine ⟨below_alloc (below_alloc (below_then q1 q2) _) _, _, _, rfl, rfl, by omega, by omega, (Pur.fresh w2 F 0 _).then (below_alloc (Below.refl _ _) _), ?_⟩
    have := Pur.fresh (w2.alloc (.cells #[.int .i64 F, .int .i64 0] 23)) E 0 23
    simpa using this
  rintro W ⟨hB, P, Q, eP, eQ, hA, hPQ, hP, hQ⟩
  rw [eQ, eP]
  clear eP eQ q1 q2
  go_upto_region 3 with fail
  go_cut [26] (fun c wx => c = .bool (mayPut 0 first) ∧ W = wx)
  case first =>
    by_cases g1 : 0 ≤ first
    · by_cases g2 : first ≤ 1152921504606846976
      · have g3 : Hid (mayPut 0 first = true) := by show _ = _; simp [mayPut]; omega
        go_wp2
        go_meet
        case rel => exact ⟨by simp only [g3.out]; first | done | rfl | (simp; omega), rfl⟩
      · have g3 : Hid (mayPut 0 first = false) := by show _ = _; simp [mayPut]; omega
        go_wp2
        go_meet
        case rel => exact ⟨by simp only [g3.out]; first | done | rfl | (simp; omega), rfl⟩
    · have g3 : Hid (mayPut 0 first = false) := by show _ = _; simp [mayPut]; omega
      go_wp2
      go_meet
      case rel => exact ⟨by simp only [g3.out]; first | done | rfl | (simp; omega), rfl⟩
  case rest =>
  obtain ⟨rfl, rfl⟩ := hcut
  go_upto_if 26 with fail
  go_cut [9] (fun c wx => c = .int .i64 F ∧ W = wx)
  case first =>
    cases g3 : mayPut 0 first
    · have g4 : F = 0 := by rw [← HF.out]; unfold ofN; rw [g3]; rfl
      go_wp2
      go_meet
      case rel => exact ⟨by rw [g4], rfl⟩
    · have g4 : F = first := by rw [← HF.out]; unfold ofN; rw [g3]; rfl
      go_wp2
      go_meet
      case rel => exact ⟨by rw [g4], rfl⟩
  case rest =>
  obtain ⟨rfl, rfl⟩ := hcut
  go_upto_region 6 with fail
  go_cut [33] (fun c wx => c = .bool (mayPut 0 other) ∧ W = wx)
  case first =>
    by_cases g1 : 0 ≤ other
    · by_cases g2 : other ≤ 1152921504606846976
      · have g3 : Hid (mayPut 0 other = true) := by show _ = _; simp [mayPut]; omega
        go_wp2
        go_meet
        case rel => exact ⟨by simp only [g3.out]; first | done | rfl | (simp; omega), rfl⟩
      · have g3 : Hid (mayPut 0 other = false) := by show _ = _; simp [mayPut]; omega
        go_wp2
        go_meet
        case rel => exact ⟨by simp only [g3.out]; first | done | rfl | (simp; omega), rfl⟩
    · have g3 : Hid (mayPut 0 other = false) := by show _ = _; simp [mayPut]; omega
      go_wp2
      go_meet
      case rel => exact ⟨by simp only [g3.out]; first | done | rfl | (simp; omega), rfl⟩
  case rest =>
  obtain ⟨rfl, rfl⟩ := hcut
  go_upto_if 33 with fail
  go_cut [11] (fun c wx => c = .int .i64 E ∧ W = wx)
  case first =>
    cases g3 : mayPut 0 other
    · have g4 : E = 0 := by rw [← HE.out]; unfold ofN; rw [g3]; rfl
      go_wp2
      go_meet
      case rel => exact ⟨by rw [g4], rfl⟩
    · have g4 : E = other := by rw [← HE.out]; unfold ofN; rw [g3]; rfl
      go_wp2
      go_meet
      case rel => exact ⟨by rw [g4], rfl⟩
  case rest =>
  obtain ⟨rfl, rfl⟩ := hcut
  go_wp2
  go_loopw [9, 10, 11, 12] (fun s t o i wr => ∃ (k : Nat) (I U K : Int), k ≤ 30 ∧ i = .int .i64 k ∧ s = .int .i64 I ∧ t = .int .i64 U ∧ o = .int .i64 K ∧ Fit I U ∧ Fit K 0 ∧ Pur wr P 0 I U ∧ Pur wr Q 0 K 0 ∧ Below w.heap.size w wr) (fun _ _ _ i _ => 30 - (intOf i).toNat)
  case atStart => exact ⟨0, F, 0, E, by omega, rfl, rfl, rfl, rfl, fF.out, fE.out, hP, hQ, hB⟩
  case round =>
  clear hB hP hQ
  obtain ⟨k, I, U, K, hk, rfl, rfl, rfl, rfl, hF, hK, hP, hQ, hB⟩ := hrel
  go_upto_region 9 with fail
  go_cut [42] (fun c wx => c = .bool (decide (k < len1 ∧ k < 30)) ∧ wr = wx)
  case first =>
    by_cases g1 : k < len1
    · by_cases g2 : k < 30
      · go_wp2
        go_meet
        case rel => exact ⟨by simp [g1]; omega, rfl⟩
      · go_wp2
        go_meet
        case rel => exact ⟨by simp [g1]; omega, rfl⟩
    · go_wp2
      go_meet
      case rel => exact ⟨by simp [g1], rfl⟩
  case rest =>
  obtain ⟨rfl, rfl⟩ := hcut
  by_cases g : k < len1 ∧ k < 30
  · rw [decide_eq_true g]
    obtain ⟨b, off, X, N, rfl, hc0, hc1⟩ := HC.out k g.1
    have hlb := World.block_lt_of_cell? w ⟨b, off + k * 2, none⟩ hc0
    replace hc0 : wr.cell? ⟨b, off + k * 2, none⟩ = some (.int .i64 X) := (hB.cell (p := ⟨b, off + k * 2, none⟩) hlb).trans hc0
    replace hc1 : wr.cell? ⟨b, off + k * 2 + 1, none⟩ = some (.int .i64 N) := (hB.cell (p := ⟨b, off + k * 2 + 1, none⟩) hlb).trans hc1
    obtain ⟨g1, g2⟩ := g
    go_upto_region 12 with fail
    refine wp_letter (fun wx => Below w.heap.size w wx ∧ ∃ A, wr.heap.size = A ∧ P < A ∧ Q < A ∧ Pur wx P 0 I U ∧ Pur wx Q 0 K 0 ∧ wx.cell? ⟨A, 0, none⟩ = some (.int .i64 X) ∧ wx.cell? ⟨A, 1, none⟩ = some (.int .i64 N)) ?_ ?_
    · exact ⟨below_alloc hB _, _, rfl, hP.lt, hQ.lt, hP.then (below_alloc (Below.refl _ _) _), hQ.then (below_alloc (Below.refl _ _) _), by simp [go_sem]⟩
    clear hB hP hQ hc0 hc1 hlb
    rintro V ⟨hB, A, eA, hPA, hQA, hP, hQ, ha0, ha1⟩
    rw [eA]
    clear eA
    obtain ⟨T, hT⟩ : ∃ T, goes I U N = T := ⟨_, rfl⟩
    obtain ⟨T0, T1⟩ := goes_bd (n := N) hF
    rw [hT] at T0 T1
    have HT : Hid (goes I U N = T) := hT
    have HF1 : Hid (Fit I U) := hF
    have HK1 : Hid (Fit K 0) := hK
    have K0 := hK.i0
    have K1 := hK.i1
    obtain ⟨u0, ui, i1⟩ := hF
    have hAQ : w.heap.size ≤ Q := by omega
    obtain ⟨M, hM⟩ : ∃ M, (if I - U < N then I - U else N) = M := ⟨_, rfl⟩
    have hM' : min N (I - U) = M := by rw [← hM]; split <;> omega
    have hM2 : (if 0 < M then M else 0) = T := by rw [← hT, ← hM']; unfold goes; split <;> omega
    have hM3 : max 0 M = T := by rw [← hT, ← hM']; unfold goes; omega
    clear hT hK
    go_upto_region 13 with fail
    clear hM hM' hM2 hM3
    by_cases x1 : X = 1
    · subst x1
      cases hm : mayPut I N
      · have HM : Hid (mayPut I N = false) := hm
        by_cases n0 : 0 ≤ N
        · have n1 : ¬ N ≤ 1152921504606846976 - I := by have := mayPut_no hm; omega
          clear hm
          go_wp2_with (first
            | (go_at_call 13; refine (put_no P 0 I U N _ (by omega) i1 hP HM.out).mono ?_; rintro e wt ⟨rfl, bt⟩; replace hB := below_then hB bt; replace ha1 := cell_keep bt ha1; replace hP := hP.then bt; replace hQ := hQ.then bt; clear bt; obtain ⟨p0, p1, _, _⟩ := id hP; obtain ⟨s0, s1, _, _⟩ := id hQ)
            | (go_at_call 10; refine (has_any _ _ (by omega) (by omega) (by omega) _).mono ?_; rintro e wt ⟨rfl, bt⟩; replace hB := below_then hB bt; replace ha1 := cell_keep bt ha1; replace hP := hP.then bt; replace hQ := hQ.then bt; clear bt; obtain ⟨p0, p1, _, _⟩ := id hP; obtain ⟨s0, s1, _, _⟩ := id hQ) | (go_at_call 11; refine (in_any _ _ _).mono ?_; rintro e wt ⟨rfl, bt⟩; replace hB := below_then hB bt; replace ha1 := cell_keep bt ha1; replace hP := hP.then bt; replace hQ := hQ.then bt; clear bt; obtain ⟨p0, p1, _, _⟩ := id hP; obtain ⟨s0, s1, _, _⟩ := id hQ) | (go_at_call 12; refine (out_any _ _ _).mono ?_; rintro e wt ⟨rfl, bt⟩; replace hB := below_then hB bt; replace ha1 := cell_keep bt ha1; replace hP := hP.then bt; replace hQ := hQ.then bt; clear bt; obtain ⟨p0, p1, _, _⟩ := id hP; obtain ⟨s0, s1, _, _⟩ := id hQ))
          go_roundw
          case rel => exact ⟨k + 1, I, U, K, by omega, by go_num, rfl, rfl, rfl, HF1.out, HK1.out, hP, hQ, hB⟩
          case measure => simp [intOf]; omega
        · clear hm
          go_wp2_with (first
            | (go_at_call 13; refine (put_no P 0 I U N _ (by omega) i1 hP HM.out).mono ?_; rintro e wt ⟨rfl, bt⟩; replace hB := below_then hB bt; replace ha1 := cell_keep bt ha1; replace hP := hP.then bt; replace hQ := hQ.then bt; clear bt; obtain ⟨p0, p1, _, _⟩ := id hP; obtain ⟨s0, s1, _, _⟩ := id hQ)
            | (go_at_call 10; refine (has_any _ _ (by omega) (by omega) (by omega) _).mono ?_; rintro e wt ⟨rfl, bt⟩; replace hB := below_then hB bt; replace ha1 := cell_keep bt ha1; replace hP := hP.then bt; replace hQ := hQ.then bt; clear bt; obtain ⟨p0, p1, _, _⟩ := id hP; obtain ⟨s0, s1, _, _⟩ := id hQ) | (go_at_call 11; refine (in_any _ _ _).mono ?_; rintro e wt ⟨rfl, bt⟩; replace hB := below_then hB bt; replace ha1 := cell_keep bt ha1; replace hP := hP.then bt; replace hQ := hQ.then bt; clear bt; obtain ⟨p0, p1, _, _⟩ := id hP; obtain ⟨s0, s1, _, _⟩ := id hQ) | (go_at_call 12; refine (out_any _ _ _).mono ?_; rintro e wt ⟨rfl, bt⟩; replace hB := below_then hB bt; replace ha1 := cell_keep bt ha1; replace hP := hP.then bt; replace hQ := hQ.then bt; clear bt; obtain ⟨p0, p1, _, _⟩ := id hP; obtain ⟨s0, s1, _, _⟩ := id hQ))
          go_roundw
          case rel => exact ⟨k + 1, I, U, K, by omega, by go_num, rfl, rfl, rfl, HF1.out, HK1.out, hP, hQ, hB⟩
          case measure => simp [intOf]; omega
      · have HM : Hid (mayPut I N = true) := hm
        obtain ⟨n0, n1⟩ := mayPut_yes hm
        clear hm
        go_wp2_with (first
          | (go_at_call 13; refine (put_yes P 0 I U N _ (by omega) i1 hP HM.out).mono ?_; rintro e wt ⟨rfl, ct, pt⟩; replace hB := ct.below hB hA hB.size; replace ha1 := ct.far ha1 (by omega); replace hQ := hQ.chg ct (Or.inl (by omega)); replace hP := pt; clear ct pt; obtain ⟨p0, p1, _, _⟩ := id hP; obtain ⟨s0, s1, _, _⟩ := id hQ)
          | (go_at_call 10; refine (has_any _ _ (by omega) (by omega) (by omega) _).mono ?_; rintro e wt ⟨rfl, bt⟩; replace hB := below_then hB bt; replace ha1 := cell_keep bt ha1; replace hP := hP.then bt; replace hQ := hQ.then bt; clear bt; obtain ⟨p0, p1, _, _⟩ := id hP; obtain ⟨s0, s1, _, _⟩ := id hQ) | (go_at_call 11; refine (in_any _ _ _).mono ?_; rintro e wt ⟨rfl, bt⟩; replace hB := below_then hB bt; replace ha1 := cell_keep bt ha1; replace hP := hP.then bt; replace hQ := hQ.then bt; clear bt; obtain ⟨p0, p1, _, _⟩ := id hP; obtain ⟨s0, s1, _, _⟩ := id hQ) | (go_at_call 12; refine (out_any _ _ _).mono ?_; rintro e wt ⟨rfl, bt⟩; replace hB := below_then hB bt; replace ha1 := cell_keep bt ha1; replace hP := hP.then bt; replace hQ := hQ.then bt; clear bt; obtain ⟨p0, p1, _, _⟩ := id hP; obtain ⟨s0, s1, _, _⟩ := id hQ))
        go_roundw
        case rel => exact ⟨k + 1, I + N, U, K, by omega, by go_num, rfl, rfl, rfl, HF1.out.put HM.out, HK1.out, hP, hQ, hB⟩
        case measure => simp [intOf]; omega
    by_cases x2 : X = 2
    · subst x2
      go_wp2_with (first
        | (go_at_call 9; refine (take_to hP HF1.out HT.out rfl).mono ?_; rintro e wt ⟨rfl, ct, pt⟩; replace hB := ct.below hB hA hB.size; replace ha1 := ct.far ha1 (by omega); replace hQ := hQ.chg ct (Or.inl (by omega)); replace hP := pt; clear ct pt; obtain ⟨p0, p1, _, _⟩ := id hP; obtain ⟨s0, s1, _, _⟩ := id hQ)
        | (go_at_call 10; refine (has_any _ _ (by omega) (by omega) (by omega) _).mono ?_; rintro e wt ⟨rfl, bt⟩; replace hB := below_then hB bt; replace ha1 := cell_keep bt ha1; replace hP := hP.then bt; replace hQ := hQ.then bt; clear bt; obtain ⟨p0, p1, _, _⟩ := id hP; obtain ⟨s0, s1, _, _⟩ := id hQ) | (go_at_call 11; refine (in_any _ _ _).mono ?_; rintro e wt ⟨rfl, bt⟩; replace hB := below_then hB bt; replace ha1 := cell_keep bt ha1; replace hP := hP.then bt; replace hQ := hQ.then bt; clear bt; obtain ⟨p0, p1, _, _⟩ := id hP; obtain ⟨s0, s1, _, _⟩ := id hQ) | (go_at_call 12; refine (out_any _ _ _).mono ?_; rintro e wt ⟨rfl, bt⟩; replace hB := below_then hB bt; replace ha1 := cell_keep bt ha1; replace hP := hP.then bt; replace hQ := hQ.then bt; clear bt; obtain ⟨p0, p1, _, _⟩ := id hP; obtain ⟨s0, s1, _, _⟩ := id hQ))
      go_roundw
      case rel => exact ⟨k + 1, I, U + T, K, by omega, by go_num, rfl, rfl, rfl, ⟨by omega, by omega, by omega⟩, HK1.out, hP, hQ, hB⟩
      case measure => simp [intOf]; omega
    by_cases x3 : X = 3
    · subst x3
      go_wp2_with (first
        | (go_at_call 14; refine (all_any P 0 I U _ HF1.out hP).mono ?_; rintro e wt ⟨rfl, ct, pt⟩; replace hB := ct.below hB hA hB.size; replace ha1 := ct.far ha1 (by omega); replace hQ := hQ.chg ct (Or.inl (by omega)); replace hP := pt; clear ct pt; obtain ⟨p0, p1, _, _⟩ := id hP; obtain ⟨s0, s1, _, _⟩ := id hQ)
        | (go_at_call 10; refine (has_any _ _ (by omega) (by omega) (by omega) _).mono ?_; rintro e wt ⟨rfl, bt⟩; replace hB := below_then hB bt; replace ha1 := cell_keep bt ha1; replace hP := hP.then bt; replace hQ := hQ.then bt; clear bt; obtain ⟨p0, p1, _, _⟩ := id hP; obtain ⟨s0, s1, _, _⟩ := id hQ) | (go_at_call 11; refine (in_any _ _ _).mono ?_; rintro e wt ⟨rfl, bt⟩; replace hB := below_then hB bt; replace ha1 := cell_keep bt ha1; replace hP := hP.then bt; replace hQ := hQ.then bt; clear bt; obtain ⟨p0, p1, _, _⟩ := id hP; obtain ⟨s0, s1, _, _⟩ := id hQ) | (go_at_call 12; refine (out_any _ _ _).mono ?_; rintro e wt ⟨rfl, bt⟩; replace hB := below_then hB bt; replace ha1 := cell_keep bt ha1; replace hP := hP.then bt; replace hQ := hQ.then bt; clear bt; obtain ⟨p0, p1, _, _⟩ := id hP; obtain ⟨s0, s1, _, _⟩ := id hQ))
      go_roundw
      case rel => exact ⟨k + 1, I, I, K, by omega, by go_num, rfl, rfl, rfl, ⟨by omega, by omega, by omega⟩, HK1.out, hP, hQ, hB⟩
      case measure => simp [intOf]; omega
    by_cases x4 : X = 4
    · subst x4
      obtain ⟨R, hR⟩ : ∃ R, (if 1152921504606846976 - K < T then 0 else T) = R := ⟨_, rfl⟩
      have HR : Hid ((if 1152921504606846976 - K < T then 0 else T) = R) := hR
      by_cases c : 1152921504606846976 - K < T
      · obtain rfl : R = 0 := by rw [← hR, if_pos c]
        clear hR
        go_wp2_with (first
          | (go_at_call 15; refine (move_nil_to P Q _ I U K N T _ (hP.then (below_alloc (Below.refl _ _) _)) (hQ.then (below_alloc (Below.refl _ _) _)) HF1.out HK1.out (by omega) (by have := hP.lt; omega) HT.out (by simp [go_sem]) (by simp [go_sem])).mono ?_; rw [HR.out]; rintro e wt ⟨rfl, pt, qt, lt⟩; replace hB := lt _ _ (below_alloc hB _) hA hAQ (by have := hB.size; simp; omega); clear ha0 ha1; replace hQ := qt; replace hP := pt; clear lt pt qt; have ha1 : wt.cell? ⟨P, 0, none⟩ = some (.int .i64 I) := hP.c0; obtain ⟨p0, p1, _, _⟩ := id hP; obtain ⟨s0, s1, _, _⟩ := id hQ)
          | (go_at_call 10; refine (has_any _ _ (by omega) (by omega) (by omega) _).mono ?_; rintro e wt ⟨rfl, bt⟩; replace hB := below_then hB bt; replace ha1 := cell_keep bt ha1; replace hP := hP.then bt; replace hQ := hQ.then bt; clear bt; obtain ⟨p0, p1, _, _⟩ := id hP; obtain ⟨s0, s1, _, _⟩ := id hQ) | (go_at_call 11; refine (in_any _ _ _).mono ?_; rintro e wt ⟨rfl, bt⟩; replace hB := below_then hB bt; replace ha1 := cell_keep bt ha1; replace hP := hP.then bt; replace hQ := hQ.then bt; clear bt; obtain ⟨p0, p1, _, _⟩ := id hP; obtain ⟨s0, s1, _, _⟩ := id hQ) | (go_at_call 12; refine (out_any _ _ _).mono ?_; rintro e wt ⟨rfl, bt⟩; replace hB := below_then hB bt; replace ha1 := cell_keep bt ha1; replace hP := hP.then bt; replace hQ := hQ.then bt; clear bt; obtain ⟨p0, p1, _, _⟩ := id hP; obtain ⟨s0, s1, _, _⟩ := id hQ))
        go_roundw
        case rel => exact ⟨k + 1, I, U + 0, K + 0, by omega, by go_num, rfl, by simp, by simp, ⟨by omega, by omega, by omega⟩, ⟨by omega, by omega, by omega⟩, hP, hQ, hB⟩
        case measure => simp [intOf]; omega
      · obtain rfl : R = T := by rw [← hR, if_neg c]
        clear hR
        go_wp2_with (first
          | (go_at_call 15; refine (move_nil_to P Q _ I U K N R _ (hP.then (below_alloc (Below.refl _ _) _)) (hQ.then (below_alloc (Below.refl _ _) _)) HF1.out HK1.out (by omega) (by have := hP.lt; omega) HT.out (by simp [go_sem]) (by simp [go_sem])).mono ?_; rw [HR.out]; rintro e wt ⟨rfl, pt, qt, lt⟩; replace hB := lt _ _ (below_alloc hB _) hA hAQ (by have := hB.size; simp; omega); clear ha0 ha1; replace hQ := qt; replace hP := pt; clear lt pt qt; have ha1 : wt.cell? ⟨P, 0, none⟩ = some (.int .i64 I) := hP.c0; obtain ⟨p0, p1, _, _⟩ := id hP; obtain ⟨s0, s1, _, _⟩ := id hQ)
          | (go_at_call 10; refine (has_any _ _ (by omega) (by omega) (by omega) _).mono ?_; rintro e wt ⟨rfl, bt⟩; replace hB := below_then hB bt; replace ha1 := cell_keep bt ha1; replace hP := hP.then bt; replace hQ := hQ.then bt; clear bt; obtain ⟨p0, p1, _, _⟩ := id hP; obtain ⟨s0, s1, _, _⟩ := id hQ) | (go_at_call 11; refine (in_any _ _ _).mono ?_; rintro e wt ⟨rfl, bt⟩; replace hB := below_then hB bt; replace ha1 := cell_keep bt ha1; replace hP := hP.then bt; replace hQ := hQ.then bt; clear bt; obtain ⟨p0, p1, _, _⟩ := id hP; obtain ⟨s0, s1, _, _⟩ := id hQ) | (go_at_call 12; refine (out_any _ _ _).mono ?_; rintro e wt ⟨rfl, bt⟩; replace hB := below_then hB bt; replace ha1 := cell_keep bt ha1; replace hP := hP.then bt; replace hQ := hQ.then bt; clear bt; obtain ⟨p0, p1, _, _⟩ := id hP; obtain ⟨s0, s1, _, _⟩ := id hQ))
        go_roundw
        case rel => exact ⟨k + 1, I, U + R, K + R, by omega, by go_num, rfl, rfl, rfl, ⟨by omega, by omega, by omega⟩, ⟨by omega, by omega, by omega⟩, hP, hQ, hB⟩
        case measure => simp [intOf]; omega
    by_cases x5 : X = 5
    · subst x5
      obtain ⟨p0, p1, _, _⟩ := id hP; obtain ⟨s0, s1, _, _⟩ := id hQ
      go_upto_region 36 with fail
      refine wp_letter (fun wx => Below w.heap.size w wx ∧ ∃ C, V.heap.size = C ∧ A < C ∧ Pur wx P 0 I U ∧ Pur wx Q 0 K 0 ∧ wx.cell? ⟨A, 1, none⟩ = some (.int .i64 N) ∧ Pur wx C 0 I U) ?_ ?_
      · exact ⟨below_alloc hB _, _, rfl, World.block_lt_of_cell? V ⟨A, 1, none⟩ ha1, hP.then (below_alloc (Below.refl _ _) _), hQ.then (below_alloc (Below.refl _ _) _), cell_keep (below_alloc (Below.refl _ _) _) ha1, Pur.fresh _ _ _ _⟩
      clear hB hP hQ ha0 ha1 p0 p1 s0 s1
      rintro V2 ⟨hB, C, eC, hAC, hP, hQ, ha1, hC⟩
      rw [eC]
      clear eC
      go_wp2_with (first
        | (go_at_call 13; refine (put_any C 0 I U 1 _ (by omega) i1 hC).mono ?_; rintro e wt ⟨rfl, ct, pt⟩; replace hB := ct.below hB (by omega) hB.size; replace ha1 := ct.far ha1 (by omega); replace hQ := hQ.chg ct (Or.inl (by omega)); replace hP := hP.chg ct (Or.inl (by omega)); replace hC := pt; clear ct pt)
        | (go_at_call 14; refine (all_any C 0 _ U _ (HF1.out.putAny 1) hC).mono ?_; rintro e wt ⟨rfl, ct, pt⟩; replace hB := ct.below hB (by omega) hB.size; replace ha1 := ct.far ha1 (by omega); replace hQ := hQ.chg ct (Or.inl (by omega)); replace hP := hP.chg ct (Or.inl (by omega)); clear ct pt hC; obtain ⟨p0, p1, _, _⟩ := id hP; obtain ⟨s0, s1, _, _⟩ := id hQ)
        | (go_at_call 10; refine (has_any _ _ (by omega) (by omega) (by omega) _).mono ?_; rintro e wt ⟨rfl, bt⟩; replace hB := below_then hB bt; replace ha1 := cell_keep bt ha1; replace hP := hP.then bt; replace hQ := hQ.then bt; clear bt; obtain ⟨p0, p1, _, _⟩ := id hP; obtain ⟨s0, s1, _, _⟩ := id hQ) | (go_at_call 11; refine (in_any _ _ _).mono ?_; rintro e wt ⟨rfl, bt⟩; replace hB := below_then hB bt; replace ha1 := cell_keep bt ha1; replace hP := hP.then bt; replace hQ := hQ.then bt; clear bt; obtain ⟨p0, p1, _, _⟩ := id hP; obtain ⟨s0, s1, _, _⟩ := id hQ) | (go_at_call 12; refine (out_any _ _ _).mono ?_; rintro e wt ⟨rfl, bt⟩; replace hB := below_then hB bt; replace ha1 := cell_keep bt ha1; replace hP := hP.then bt; replace hQ := hQ.then bt; clear bt; obtain ⟨p0, p1, _, _⟩ := id hP; obtain ⟨s0, s1, _, _⟩ := id hQ))
      go_roundw
      case rel => exact ⟨k + 1, I, U, K, by omega, by go_num, rfl, rfl, rfl, HF1.out, HK1.out, hP, hQ, hB⟩
      case measure => simp [intOf]; omega
    · obtain ⟨p0, p1, _, _⟩ := id hP; obtain ⟨s0, s1, _, _⟩ := id hQ
      go_wp2_with (first | (go_at_call 10; refine (has_any _ _ (by omega) (by omega) (by omega) _).mono ?_; rintro e wt ⟨rfl, bt⟩; replace hB := below_then hB bt; replace ha1 := cell_keep bt ha1; replace hP := hP.then bt; replace hQ := hQ.then bt; clear bt; obtain ⟨p0, p1, _, _⟩ := id hP; obtain ⟨s0, s1, _, _⟩ := id hQ) | (go_at_call 11; refine (in_any _ _ _).mono ?_; rintro e wt ⟨rfl, bt⟩; replace hB := below_then hB bt; replace ha1 := cell_keep bt ha1; replace hP := hP.then bt; replace hQ := hQ.then bt; clear bt; obtain ⟨p0, p1, _, _⟩ := id hP; obtain ⟨s0, s1, _, _⟩ := id hQ) | (go_at_call 12; refine (out_any _ _ _).mono ?_; rintro e wt ⟨rfl, bt⟩; replace hB := below_then hB bt; replace ha1 := cell_keep bt ha1; replace hP := hP.then bt; replace hQ := hQ.then bt; clear bt; obtain ⟨p0, p1, _, _⟩ := id hP; obtain ⟨s0, s1, _, _⟩ := id hQ))
      go_roundw
      case rel => exact ⟨k + 1, I, U, K, by omega, by go_num, rfl, rfl, rfl, HF1.out, HK1.out, hP, hQ, hB⟩
      case measure => simp [intOf]; omega
  · rw [decide_eq_false g]
    clear g HC
    go_wp2_with (go_at_call 3; refine (purseRuns_any _).mono ?_; rintro e wn ⟨rfl, bn⟩)
    go_ret
    exact ⟨rfl, below_then hB bn⟩
end Go.Proofs.Ytkjglnjneblomaa
