/-
  The walk of DealRuns.
-/
import Derived.Test.YtamdmicdieeolaaDealOne
import Derived.Test.YtamdmicdieeolaaDealTurn
namespace Go.Proofs.Ytamdmicdieeolaa
open Go.RowKit

theorem oneD_ok : (oneD 100).ok = true := by decide
theorem oneD_no : (oneD 101).ok = false := by decide
theorem oneD_pool : (oneD 100).pool = 100 := by decide
theorem oneD_notes : (oneD 100).notes = 100 := by decide
set_option maxHeartbeats 4000000 in
theorem dealRuns_any (w : World) : Calls Try.prog 3 #[] w fun e w' => e = .returned (.bool true) ∧ Below w.heap.size w w' := by
  have P1 : Hid (∀ (w : World) (R : Ending → World → Prop), (∀ l n a b c w', DealOwn w.heap.size w' l n a b c (oneD 100) → Below w.heap.size w w' → R (.returned (.agg #[.int .i64 2024, .int .i64 1, .int .i64 0, l, n, .int .i64 0, .int .i64 0, .int .i64 0, .int .i64 0, .int .i64 0, .int .i64 0, .int .i64 0, .int .i64 0, .int .i64 0, .int .i64 0, a, b, c])) w') → Calls Try.prog 7 #[] w R) := fun w R h => (one_any w).mono (by rintro e w' ⟨l, n, a, b, c, rfl, o, d⟩; exact h l n a b c w' o d)
  go_enter Try.func3, Try.ntmps3
  go_upto_region 2 with (first | (with_reducible refine P1.out _ _ (fun l n a b c w1 O1 d1 => ?_)) | (refine wpl_box_deal (.tmp 1) (.tmp 3) rfl rfl (oneD 100).t l n a b c _ rfl rfl rfl (own_one O1.ls) (own_one O1.ns) (own_one O1.s0) (own_one O1.s1) (own_one O1.s2) (fun X bG dX => ?_)))
  obtain ⟨G, eG⟩ : ∃ G, w1.heap.size = G := ⟨_, rfl⟩
  have lG : w.heap.size ≤ G := by rw [← eG]; exact d1.size
  have hX := below_then d1 dX
  replace O1 := O1.then dX
  rw [eG] at bG ⊢
  clear eG d1 dX
  go_upto_region 3 with (first | (with_reducible refine P1.out _ _ (fun l2 n2 a2 b2 c2 w2 O2 d2 => ?_)) | (refine wpl_box_deal (.tmp 2) (.tmp 4) rfl rfl (oneD 100).t l2 n2 a2 b2 c2 _ rfl rfl rfl (own_one O2.ls) (own_one O2.ns) (own_one O2.s0) (own_one O2.s1) (own_one O2.s2) (fun Y bH dY => ?_)))
  obtain ⟨H, eH⟩ : ∃ H, w2.heap.size = H := ⟨_, rfl⟩
  have lGX := bG.lt
  have lH : X.heap.size ≤ H := by rw [← eH]; exact d2.size
  have sX := hX.size
  replace O2 := O2.then dY
  have dX := below_then d2 dY
  have hY := below_then hX dX
  have bG2 := bG.then dX
  have O1X := O1
  replace O1 := O1.then dX
  rw [eH] at bH ⊢
  clear eH d2 dY bG
  obtain ⟨g, cap, rfl, lg, lg2, _⟩ := own_form O2.ns (by decide)
  have hgH : g ≠ H := fun e => by
    subst e
    rcases O2.ns.2 with ⟨h, _⟩ | ⟨g', cap', cur', h, _, h2, _⟩
    · simp at h
    · simp only [Value.slice.injEq, Option.some.injEq, Addr.mk.injEq] at h
      obtain ⟨⟨rfl, _⟩, _⟩ := h
      have b2 := bH
      unfold Blk at b2
      rw [h2] at b2
      simp at b2
  have T2 := O2.turnN (j := 1) (u := .int .i64 101) (x := ⟨0, 100, 0⟩) (x' := ⟨0, 101, 0⟩) rfl rfl rfl (by decide)
  have r := Rest.set g 1 Y (.int .i64 101)
  have f1 := O2.ns.frozenAt 1
  have c1 : Y.cell? ⟨g, 1, none⟩ = some (.int .i64 100) := own_cell (i := 0) (j := 1) (x := ⟨0, 100, 0⟩) TrT.len O2.ns rfl rfl rfl
  have c4 := bH.cell 4 _ rfl
  have dZ : Below X.heap.size X (Y.setCell ⟨g, 1, none⟩ (.int .i64 101)) := r.below dX lg dX.size
  go_upto_region 4 with fail
  refine wp_letter (fun wx => Blk wx G 29 (NumT.f (oneD 100).t l n a b c) ∧ Blk wx H 29 (NumT.f (oneD 100).t l2 (.slice (some ⟨g, 0, none⟩) 1 cap) a2 b2 c2) ∧ DealIn wx l n a b c (oneD 100) ∧ DealIn wx l2 (.slice (some ⟨g, 0, none⟩) 1 cap) a2 b2 c2 (oneD 101) ∧ Below w.heap.size w wx)
    ⟨bG2.rest r (by omega), bH.rest r (fun e => hgH e.symm), (O1X.then dZ).in, T2.in, below_then hX dZ⟩ ?_
  clear dZ r T2 f1 c1 c4 bG2 bH O1 O1X O2 hY dX hX
  rintro Z ⟨bG, bH, I1, I2, hZ⟩
  have hB : Below Z.heap.size Z Z := Below.refl _ _
  have Q1 : Hid (∀ (w : World) (R : Ending → World → Prop), Below Z.heap.size Z w → (∀ w', Below w.heap.size w w' → R (.returned (.bool true)) w') → Calls Try.prog 8 #[.agg #[.int .i64 2024, .int .i64 1, .int .i64 0, l, n, .int .i64 0, .int .i64 0, .int .i64 0, .int .i64 0, .int .i64 0, .int .i64 0, .int .i64 0, .int .i64 0, .int .i64 0, .int .i64 0, a, b, c]] w R) := fun w R k h => (dright_any l n a b c (oneD 100) w (I1.below k)).mono (by rintro e w' ⟨rfl, d⟩; rw [oneD_ok]; exact h w' d)
  have Q2 : Hid (∀ (w : World) (R : Ending → World → Prop), Below Z.heap.size Z w → (∀ w', Below w.heap.size w w' → R (.returned (.bool false)) w') → Calls Try.prog 8 #[.agg #[.int .i64 2024, .int .i64 1, .int .i64 0, l2, (.slice (some ⟨g, 0, none⟩) 1 cap), .int .i64 0, .int .i64 0, .int .i64 0, .int .i64 0, .int .i64 0, .int .i64 0, .int .i64 0, .int .i64 0, .int .i64 0, .int .i64 0, a2, b2, c2]] w R) := fun w R k h => (dright_any l2 _ a2 b2 c2 (oneD 101) w (I2.below k)).mono (by rintro e w' ⟨rfl, d⟩; rw [oneD_no]; exact h w' d)
  have Q3 : Hid (∀ (w : World) (R : Ending → World → Prop), Below Z.heap.size Z w → (∀ w', Below w.heap.size w w' → R (.returned (.int .i64 100)) w') → Calls Try.prog 9 #[.agg #[.int .i64 2024, .int .i64 1, .int .i64 0, l, n, .int .i64 0, .int .i64 0, .int .i64 0, .int .i64 0, .int .i64 0, .int .i64 0, .int .i64 0, .int .i64 0, .int .i64 0, .int .i64 0, a, b, c]] w R) := fun w R k h => (pool_any l n a b c (oneD 100) w (I1.below k)).mono (by rintro e w' ⟨rfl, d⟩; rw [oneD_pool]; exact h w' d)
  have Q4 : Hid (∀ (w : World) (R : Ending → World → Prop), Below Z.heap.size Z w → (∀ w', Below w.heap.size w w' → R (.returned (.int .i64 100)) w') → Calls Try.prog 10 #[.agg #[.int .i64 2024, .int .i64 1, .int .i64 0, l, n, .int .i64 0, .int .i64 0, .int .i64 0, .int .i64 0, .int .i64 0, .int .i64 0, .int .i64 0, .int .i64 0, .int .i64 0, .int .i64 0, a, b, c]] w R) := fun w R k h => (notes_any l n a b c (oneD 100) w (I1.below k)).mono (by rintro e w' ⟨rfl, d⟩; rw [oneD_notes]; exact h w' d)
  have Q5 : Hid (∀ (w : World) (R : Ending → World → Prop), (∀ w', Below w.heap.size w w' → R (.returned (.bool true)) w') → Calls Try.prog 11 #[.slice (some ⟨w.heap.size, 0, none⟩) 1 1] (w.alloc (.cells #[.int .i64 7, .int .i64 0] 37)) R) := fun w R h => (steps_any _ [⟨7, 0⟩] _ (lies_new StT.len w [⟨7, 0⟩] _ (by unfold maxLen; decide))).mono (by rintro e w' ⟨rfl, d⟩; exact h w' (below_then (below_alloc (Below.refl _ _) _) d))
  have Q6 : Hid (∀ (w : World) (R : Ending → World → Prop), (∀ w', Below w.heap.size w w' → R (.returned (.bool false)) w') → Calls Try.prog 11 #[.slice none 0 0] w R) := fun w R h => (steps_any _ [] _ (Lies.nil 2 StT.f w)).mono (by rintro e w' ⟨rfl, d⟩; exact h w' d)
  clear I1 I2
  go_wp2_with (first
    | (refine wpList_load_row rfl 29 (.tmp 1) rfl G rfl 29 #[.int .i64 2024, .int .i64 1, .int .i64 0, l, n, .int .i64 0, .int .i64 0, .int .i64 0, .int .i64 0, .int .i64 0, .int .i64 0, .int .i64 0, .int .i64 0, .int .i64 0, .int .i64 0, a, b, c] (0, 0) _ bG Try.underlying29 rfl Try.size_deal ?_)
    | (refine wpList_load_met (by rfl) 29 (.tmp 1) rfl G rfl 29 #[.int .i64 2024, .int .i64 1, .int .i64 0, l, n, .int .i64 0, .int .i64 0, .int .i64 0, .int .i64 0, .int .i64 0, .int .i64 0, .int .i64 0, .int .i64 0, .int .i64 0, .int .i64 0, a, b, c] (0, 0) _ bG Try.underlying29 rfl Try.size_deal ?_)
    | (refine wpList_load_met (by rfl) 29 (.tmp 2) rfl H rfl 29 #[.int .i64 2024, .int .i64 1, .int .i64 0, l2, (.slice (some ⟨g, 0, none⟩) 1 cap), .int .i64 0, .int .i64 0, .int .i64 0, .int .i64 0, .int .i64 0, .int .i64 0, .int .i64 0, .int .i64 0, .int .i64 0, .int .i64 0, a2, b2, c2] (0, 0) _ bH Try.underlying29 rfl Try.size_deal ?_)
    | (with_reducible refine Q1.out _ _ hB (fun w1 bn => ?_); replace hB := below_then hB bn; replace bG := bG.then bn; replace bH := bH.then bn)
    | (with_reducible refine Q2.out _ _ hB (fun w1 bn => ?_); replace hB := below_then hB bn; replace bG := bG.then bn; replace bH := bH.then bn)
    | (with_reducible refine Q3.out _ _ hB (fun w1 bn => ?_); replace hB := below_then hB bn; replace bG := bG.then bn; replace bH := bH.then bn)
    | (with_reducible refine Q4.out _ _ hB (fun w1 bn => ?_); replace hB := below_then hB bn; replace bG := bG.then bn; replace bH := bH.then bn)
    | (with_reducible refine Q5.out _ _ (fun w1 bn => ?_); replace hB := below_then hB bn; replace bG := bG.then bn; replace bH := bH.then bn)
    | (with_reducible refine Q6.out _ _ (fun w1 bn => ?_); replace hB := below_then hB bn; replace bG := bG.then bn; replace bH := bH.then bn))
  go_ret
  exact ⟨rfl, below_then hZ hB⟩
end Go.Proofs.Ytamdmicdieeolaa
