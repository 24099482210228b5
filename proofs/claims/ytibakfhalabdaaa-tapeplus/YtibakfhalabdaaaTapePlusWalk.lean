/-
  The walk of TapePlus.
-/
import Derived.Test.YtibakfhalabdaaaTapeRunsWalk
import Derived.Test.YtibakfhalabdaaaTapeF
namespace Go.Proofs.Ytibakfhalabdaaa
open Go.RowKit

theorem tapeRuns_k : ∀ (w : World) (R : Ending → World → Prop), (∀ w', Below w.heap.size w w' → R (.returned (.bool true)) w') → Calls Try.prog 3 #[] w R := fun w _ k =>
  (tapeRuns_any w).mono fun _ w' ⟨e2, b⟩ => e2 ▸ k w' b
/-- Three totals and their variables, as they stand when all has come up. -/
structure EndP (N : Nat) (wx : World) (v0 v1 v2 p q r : Value) (x y z : TotT) (g h k : Nat) : Prop where
  xb : x.Bd 13194139533312
  yb : y.Bd 13194139533312
  zb : z.Bd 13194139533312
  vx : v0 = .agg #[.int .i64 x.p, .int .i64 x.q, .int .i64 x.i, .int .i64 x.r, .int .i64 x.d]
  vy : v1 = .agg #[.int .i64 y.p, .int .i64 y.q, .int .i64 y.i, .int .i64 y.r, .int .i64 y.d]
  vz : v2 = .agg #[.int .i64 z.p, .int .i64 z.q, .int .i64 z.i, .int .i64 z.r, .int .i64 z.d]
  p : p = .pointer (some ⟨g, 0, none⟩)
  q : q = .pointer (some ⟨h, 0, none⟩)
  r : r = .pointer (some ⟨k, 0, none⟩)
  ng : N ≤ g
  nh : N ≤ h
  nk : N ≤ k
  gh : g ≠ h
  gk : g ≠ k
  hk : h ≠ k
  bg : Blk wx g 26 TotT.zero.f
  bh : Blk wx h 26 TotT.zero.f
  bk : Blk wx k 26 TotT.zero.f
theorem endP_of {N : Nat} {wx : World} {v0 v1 v2 p q r : Value} (h0 : SumF v0 wx) (h1 : SumF v1 wx) (h2 : SumF v2 wx) (n0 : NewF N p wx) (n1 : NewF N q wx) (n2 : NewF N r wx) (pq : p ≠ q) (pr : p ≠ r) (qr : q ≠ r) :
    ∃ m : (TotT × TotT × TotT) × Nat × Nat × Nat, EndP N wx v0 v1 v2 p q r m.1.1 m.1.2.1 m.1.2.2 m.2.1 m.2.2.1 m.2.2.2 := by
  obtain ⟨x, hx, rfl⟩ := h0
  obtain ⟨y, hy, rfl⟩ := h1
  obtain ⟨z, hz, rfl⟩ := h2
  obtain ⟨g, rfl, hg, kg⟩ := n0
  obtain ⟨h, rfl, hh, kh⟩ := n1
  obtain ⟨k, rfl, hk, kk⟩ := n2
  exact ⟨⟨⟨x, y, z⟩, g, h, k⟩, hx, hy, hz, rfl, rfl, rfl, rfl, rfl, rfl, hg, hh, hk, fun e => pq (congrArg (fun n : Nat => Value.pointer (some ⟨n, 0, none⟩)) e), fun e => pr (congrArg (fun n : Nat => Value.pointer (some ⟨n, 0, none⟩)) e), fun e => qr (congrArg (fun n : Nat => Value.pointer (some ⟨n, 0, none⟩)) e), kg, kh, kk⟩

set_option maxRecDepth 1000000 in
set_option maxHeartbeats 4000000 in
theorem tapePlus_any (v0 v1 v2 : Value) (w : World) (w0 : TapeIn w v0) (w1 : TapeIn w v1) (w2 : TapeIn w v2) :
    Calls Try.prog 6 #[v0, v1, v2] w fun e w' => e = .returned (.bool true) ∧ Below w.heap.size w w' := by
  obtain ⟨a0, a1, a2, a3, a4, a5, _, _, _, _, _, _, rfl, _⟩ := id w0
  obtain ⟨b0, b1, b2, b3, b4, b5, _, _, _, _, _, _, rfl, _⟩ := id w1
  obtain ⟨c0, c1, c2, c3, c4, c5, _, _, _, _, _, _, rfl, _⟩ := id w2
  go_enter Try.func6, Try.ntmps6
  go_upto_region 1 with fail
  refine wp_letter (fun wx => Below w.heap.size w wx ∧ ∃ A B C, w.heap.size = A ∧ A + 1 = B ∧ B + 1 = C ∧ Blk wx A 33 [a0, a1, a2, a3, a4, a5] ∧ Blk wx B 33 [b0, b1, b2, b3, b4, b5] ∧ Blk wx C 33 [c0, c1, c2, c3, c4, c5]) ⟨below_alloc (below_alloc (below_alloc (Below.refl _ _) _) _) _, _, _, _, rfl, rfl, rfl, ((Blk.fresh _ _ _).alloc _).alloc _, (Blk.fresh2 _ _ _ _).alloc _, by have := Blk.fresh2 (w.alloc (.cells #[a0, a1, a2, a3, a4, a5] 33)) (.cells #[b0, b1, b2, b3, b4, b5] 33) 33 [c0, c1, c2, c3, c4, c5]; simpa using this⟩ ?_
  rintro W ⟨hW, A, B, C, eA, eB, eC, kA, kB, kC⟩
  rw [eA, eB, eC]
  have T0 : Hid (TapeIn W (.agg #[a0, a1, a2, a3, a4, a5])) := w0.below hW
  have T1 : Hid (TapeIn W (.agg #[b0, b1, b2, b3, b4, b5])) := w1.below hW
  have T2 : Hid (TapeIn W (.agg #[c0, c1, c2, c3, c4, c5])) := w2.below hW
  have cW : ∀ wx, Below W.heap.size W wx → (wx.cell? ⟨A, 0, none⟩ = some a0 ∧ wx.cell? ⟨A, 1, none⟩ = some a1 ∧ wx.cell? ⟨A, 2, none⟩ = some a2 ∧ wx.cell? ⟨A, 3, none⟩ = some a3 ∧ wx.cell? ⟨A, 4, none⟩ = some a4 ∧ wx.cell? ⟨A, 5, none⟩ = some a5) ∧ (wx.cell? ⟨B, 0, none⟩ = some b0 ∧ wx.cell? ⟨B, 1, none⟩ = some b1 ∧ wx.cell? ⟨B, 2, none⟩ = some b2 ∧ wx.cell? ⟨B, 3, none⟩ = some b3 ∧ wx.cell? ⟨B, 4, none⟩ = some b4 ∧ wx.cell? ⟨B, 5, none⟩ = some b5) ∧ (wx.cell? ⟨C, 0, none⟩ = some c0 ∧ wx.cell? ⟨C, 1, none⟩ = some c1 ∧ wx.cell? ⟨C, 2, none⟩ = some c2 ∧ wx.cell? ⟨C, 3, none⟩ = some c3 ∧ wx.cell? ⟨C, 4, none⟩ = some c4 ∧ wx.cell? ⟨C, 5, none⟩ = some c5) := fun wx bx => by
    have hA := kA.then bx
    have hB := kB.then bx
    have hC := kC.then bx
    exact ⟨⟨hA.cell 0 _ rfl, hA.cell 1 _ rfl, hA.cell 2 _ rfl, hA.cell 3 _ rfl, hA.cell 4 _ rfl, hA.cell 5 _ rfl⟩, ⟨hB.cell 0 _ rfl, hB.cell 1 _ rfl, hB.cell 2 _ rfl, hB.cell 3 _ rfl, hB.cell 4 _ rfl, hB.cell 5 _ rfl⟩, hC.cell 0 _ rfl, hC.cell 1 _ rfl, hC.cell 2 _ rfl, hC.cell 3 _ rfl, hC.cell 4 _ rfl, hC.cell 5 _ rfl⟩
  clear kA kB kC w0 w1 w2
  go_cut [7, 8, 9] (fun p q r wx => ∃ (x y z : TotT) (g h k : Nat), p = .pointer (some ⟨g, 0, none⟩) ∧ q = .pointer (some ⟨h, 0, none⟩) ∧ r = .pointer (some ⟨k, 0, none⟩) ∧ x.Bd 13194139533312 ∧ y.Bd 13194139533312 ∧ z.Bd 13194139533312 ∧ Below W.heap.size W wx ∧ Blk wx g 26 x.f ∧ Blk wx h 26 y.f ∧ Blk wx k 26 z.f)
  case first =>
    refine wp_region_ps [10, 11, 12, 13, 14, 15, 16, 17, 18, 7, 8, 9] [fun v w => TapeIn w v, LinesF, SumF, fun v w => TapeIn w v, LinesF, SumF, fun v w => TapeIn w v, LinesF, SumF, NewF W.heap.size, NewF W.heap.size, NewF W.heap.size] [9, 10, 11] [0, 1, 2, 3, 4, 5, 6, 7, 8, 9, 10, 11] #[true, true, true, true, true, true, true, true, true, true, true, true, false, false, false] 3 (by kernel_rfl) (by kernel_rfl) (by kernel_rfl) (by kernel_rfl) ?_ ?_ ?_
    · intro p hp
      simp only [List.mem_cons, List.not_mem_nil, or_false] at hp
      rcases hp with rfl | rfl | rfl | rfl | rfl | rfl | rfl | rfl | rfl | rfl | rfl | rfl
      · exact fun _ _ _ h b => h.below b
      · exact linesF_bears
      · exact bears_only _
      · exact fun _ _ _ h b => h.below b
      · exact linesF_bears
      · exact bears_only _
      · exact fun _ _ _ h b => h.below b
      · exact linesF_bears
      · exact bears_only _
      · exact newF_bears _
      · exact newF_bears _
      · exact newF_bears _
    · have bD : Below W.heap.size W W.drew := (Below.refl _ _).drew
      refine StepsF.cons rfl rfl (fun x wx hB hF K hK => ?_) ?_
      · (have q1 : Below W.heap.size W wx := (below_then bD hB); have q2 := cW wx q1; have q3 := q2.1; have c0 := q3.1; have c1 := q3.2.1; have c2 := q3.2.2.1; have c3 := q3.2.2.2.1; have c4 := q3.2.2.2.2.1; have c5 := q3.2.2.2.2.2; clear q2 q3; simp only [acts, Act.put, List.getD_cons_zero, List.getD_cons_succ, List.setIfInBounds_toArray, List.set_cons_zero, List.set_cons_succ]; go_simp; refine hK.out _ _ (after_mk _ ?_ (Below.refl _ _) (T0.out.below q1 : TapeIn wx _) (fun h => absurd h (by decide))); simp only [acts, Act.put, List.getD_cons_zero, List.getD_cons_succ, List.setIfInBounds_toArray, List.set_cons_zero, List.set_cons_succ])
      refine StepsF.cons rfl rfl (fun x wx hB hF K hK => ?_) ?_
      · have q1 : TapeIn wx (x 0) := hF 0 (by decide) (by kernel_rfl)
        simp only [acts, Act.put, List.getD_cons_zero, List.getD_cons_succ, List.setIfInBounds_toArray, List.set_cons_zero, List.set_cons_succ]
        go_simp
        refine lines_k q1 (fun u wy hb hu => ?_)
        (refine hK.out _ _ (after_mk u ?_ hb hu (fun h => absurd h (by decide))); simp only [acts, Act.put, List.getD_cons_zero, List.getD_cons_succ, List.setIfInBounds_toArray, List.set_cons_zero, List.set_cons_succ])
      refine StepsF.cons rfl rfl (fun x wx hB hF K hK => ?_) ?_
      · (have f0 : LinesF (x 1) wx := hF 1 (by decide) (by kernel_rfl); simp only [acts, Act.put, List.getD_cons_zero, List.getD_cons_succ, List.setIfInBounds_toArray, List.set_cons_zero, List.set_cons_succ]; go_simp; refine tsum_k f0 (fun u wy hb hu => ?_); (refine hK.out _ _ (after_mk u ?_ hb hu (fun h => absurd h (by decide))); simp only [acts, Act.put, List.getD_cons_zero, List.getD_cons_succ, List.setIfInBounds_toArray, List.set_cons_zero, List.set_cons_succ]))
      refine StepsF.cons rfl rfl (fun x wx hB hF K hK => ?_) ?_
      · (have q1 : Below W.heap.size W wx := (below_then bD hB); have q2 := cW wx q1; have q3 := q2.2.1; have c0 := q3.1; have c1 := q3.2.1; have c2 := q3.2.2.1; have c3 := q3.2.2.2.1; have c4 := q3.2.2.2.2.1; have c5 := q3.2.2.2.2.2; clear q2 q3; simp only [acts, Act.put, List.getD_cons_zero, List.getD_cons_succ, List.setIfInBounds_toArray, List.set_cons_zero, List.set_cons_succ]; go_simp; refine hK.out _ _ (after_mk _ ?_ (Below.refl _ _) (T1.out.below q1 : TapeIn wx _) (fun h => absurd h (by decide))); simp only [acts, Act.put, List.getD_cons_zero, List.getD_cons_succ, List.setIfInBounds_toArray, List.set_cons_zero, List.set_cons_succ])
      refine StepsF.cons rfl rfl (fun x wx hB hF K hK => ?_) ?_
      · have q1 : TapeIn wx (x 3) := hF 3 (by decide) (by kernel_rfl)
        simp only [acts, Act.put, List.getD_cons_zero, List.getD_cons_succ, List.setIfInBounds_toArray, List.set_cons_zero, List.set_cons_succ]
        go_simp
        refine lines_k q1 (fun u wy hb hu => ?_)
        (refine hK.out _ _ (after_mk u ?_ hb hu (fun h => absurd h (by decide))); simp only [acts, Act.put, List.getD_cons_zero, List.getD_cons_succ, List.setIfInBounds_toArray, List.set_cons_zero, List.set_cons_succ])
      refine StepsF.cons rfl rfl (fun x wx hB hF K hK => ?_) ?_
      · (have f0 : LinesF (x 4) wx := hF 4 (by decide) (by kernel_rfl); simp only [acts, Act.put, List.getD_cons_zero, List.getD_cons_succ, List.setIfInBounds_toArray, List.set_cons_zero, List.set_cons_succ]; go_simp; refine tsum_k f0 (fun u wy hb hu => ?_); (refine hK.out _ _ (after_mk u ?_ hb hu (fun h => absurd h (by decide))); simp only [acts, Act.put, List.getD_cons_zero, List.getD_cons_succ, List.setIfInBounds_toArray, List.set_cons_zero, List.set_cons_succ]))
      refine StepsF.cons rfl rfl (fun x wx hB hF K hK => ?_) ?_
      · (have q1 : Below W.heap.size W wx := (below_then bD hB); have q2 := cW wx q1; have q3 := q2.2.2; have c0 := q3.1; have c1 := q3.2.1; have c2 := q3.2.2.1; have c3 := q3.2.2.2.1; have c4 := q3.2.2.2.2.1; have c5 := q3.2.2.2.2.2; clear q2 q3; simp only [acts, Act.put, List.getD_cons_zero, List.getD_cons_succ, List.setIfInBounds_toArray, List.set_cons_zero, List.set_cons_succ]; go_simp; refine hK.out _ _ (after_mk _ ?_ (Below.refl _ _) (T2.out.below q1 : TapeIn wx _) (fun h => absurd h (by decide))); simp only [acts, Act.put, List.getD_cons_zero, List.getD_cons_succ, List.setIfInBounds_toArray, List.set_cons_zero, List.set_cons_succ])
      refine StepsF.cons rfl rfl (fun x wx hB hF K hK => ?_) ?_
      · have q1 : TapeIn wx (x 6) := hF 6 (by decide) (by kernel_rfl)
        simp only [acts, Act.put, List.getD_cons_zero, List.getD_cons_succ, List.setIfInBounds_toArray, List.set_cons_zero, List.set_cons_succ]
        go_simp
        refine lines_k q1 (fun u wy hb hu => ?_)
        (refine hK.out _ _ (after_mk u ?_ hb hu (fun h => absurd h (by decide))); simp only [acts, Act.put, List.getD_cons_zero, List.getD_cons_succ, List.setIfInBounds_toArray, List.set_cons_zero, List.set_cons_succ])
      refine StepsF.cons rfl rfl (fun x wx hB hF K hK => ?_) ?_
      · (have f0 : LinesF (x 7) wx := hF 7 (by decide) (by kernel_rfl); simp only [acts, Act.put, List.getD_cons_zero, List.getD_cons_succ, List.setIfInBounds_toArray, List.set_cons_zero, List.set_cons_succ]; go_simp; refine tsum_k f0 (fun u wy hb hu => ?_); (refine hK.out _ _ (after_mk u ?_ hb hu (fun h => absurd h (by decide))); simp only [acts, Act.put, List.getD_cons_zero, List.getD_cons_succ, List.setIfInBounds_toArray, List.set_cons_zero, List.set_cons_succ]))
      refine StepsF.cons rfl rfl (fun x wx hB hF K hK => ?_) ?_
      · (have q1 : Below W.heap.size W wx := (below_then bD hB); simp only [acts, Act.put, List.getD_cons_zero, List.getD_cons_succ, List.setIfInBounds_toArray, List.set_cons_zero, List.set_cons_succ]; go_simp; refine hK.out _ _ (after_mk _ ?_ (below_alloc (Below.refl _ _) _) (⟨_, rfl, q1.size, Blk.fresh _ _ TotT.zero.f⟩ : NewF W.heap.size _ _) (fun _ k hk hf => ?_)); (· simp only [acts, Act.put, List.getD_cons_zero, List.getD_cons_succ, List.setIfInBounds_toArray, List.set_cons_zero, List.set_cons_succ]); (· simp only [List.mem_cons, List.not_mem_nil, or_false] at hk; rcases hk with rfl | rfl | rfl <;> exact newF_ne (N := W.heap.size) hf))
      refine StepsF.cons rfl rfl (fun x wx hB hF K hK => ?_) ?_
      · (have q1 : Below W.heap.size W wx := (below_then bD hB); simp only [acts, Act.put, List.getD_cons_zero, List.getD_cons_succ, List.setIfInBounds_toArray, List.set_cons_zero, List.set_cons_succ]; go_simp; refine hK.out _ _ (after_mk _ ?_ (below_alloc (Below.refl _ _) _) (⟨_, rfl, q1.size, Blk.fresh _ _ TotT.zero.f⟩ : NewF W.heap.size _ _) (fun _ k hk hf => ?_)); (· simp only [acts, Act.put, List.getD_cons_zero, List.getD_cons_succ, List.setIfInBounds_toArray, List.set_cons_zero, List.set_cons_succ]); (· simp only [List.mem_cons, List.not_mem_nil, or_false] at hk; rcases hk with rfl | rfl | rfl <;> exact newF_ne (N := W.heap.size) hf))
      refine StepsF.cons rfl rfl (fun x wx hB hF K hK => ?_) ?_
      · (have q1 : Below W.heap.size W wx := (below_then bD hB); simp only [acts, Act.put, List.getD_cons_zero, List.getD_cons_succ, List.setIfInBounds_toArray, List.set_cons_zero, List.set_cons_succ]; go_simp; refine hK.out _ _ (after_mk _ ?_ (below_alloc (Below.refl _ _) _) (⟨_, rfl, q1.size, Blk.fresh _ _ TotT.zero.f⟩ : NewF W.heap.size _ _) (fun _ k hk hf => ?_)); (· simp only [acts, Act.put, List.getD_cons_zero, List.getD_cons_succ, List.setIfInBounds_toArray, List.set_cons_zero, List.set_cons_succ]); (· simp only [List.mem_cons, List.not_mem_nil, or_false] at hk; rcases hk with rfl | rfl | rfl <;> exact newF_ne (N := W.heap.size) hf))
      exact StepsF.nil
    · intro x wx hB hF hne fuel
      have q1 : Below W.heap.size W wx := below_then (Below.refl _ _).drew hB
      have key := endP_of (N := W.heap.size) (hF 2 (by decide)) (hF 5 (by decide)) (hF 8 (by decide)) (hF 9 (by decide)) (hF 10 (by decide)) (hF 11 (by decide)) (hne 9 (by decide) 10 (by decide) (by decide)) (hne 9 (by decide) 11 (by decide) (by decide)) (hne 10 (by decide) 11 (by decide) (by decide))
      clear hB hF hne
      refine Exists.elim key ?_
      intro m hE
      have kg := hE.bg
      have kh := hE.bh
      have kk := hE.bk
      simp only [acts, Act.put, List.getD_cons_zero, List.getD_cons_succ, List.setIfInBounds_toArray, List.set_cons_zero, List.set_cons_succ]
      rw [hE.vx, hE.vy, hE.vz, hE.p, hE.q, hE.r]
      have HE : Hid (EndP W.heap.size wx (x 2) (x 5) (x 8) (x 9) (x 10) (x 11) m.1.1 m.1.2.1 m.1.2.2 m.2.1 m.2.2.1 m.2.2.2) := hE
      clear hE key
      generalize m.1.1 = X at *
      generalize m.1.2.1 = Y at *
      generalize m.1.2.2 = Z at *
      generalize m.2.1 = g at *
      generalize m.2.2.1 = h at *
      generalize m.2.2.2 = k at *
      (have f0 := kg.frozen 0; have f1 := kg.frozen 1; have f2 := kg.frozen 2; have f3 := kg.frozen 3; have f4 := kg.frozen 4; have c0 := kg.cell 0 _ rfl; have c1 := kg.cell 1 _ rfl; have c2 := kg.cell 2 _ rfl; have c3 := kg.cell 3 _ rfl; have c4 := kg.cell 4 _ rfl; refine wpAny_ready (rs := [12]) (by kernel_rfl) (by simp) ?_; refine AllReady.cons rfl (fun K hK => ?_) AllReady.nil; go_simp; refine hK _ _ ?_; clear hK K f0 f1 f2 f3 f4 c0 c1 c2 c3 c4)
      refine wpAny_letter (fun wz => Below W.heap.size W wz ∧ Blk wz g 26 X.f ∧ Blk wz h 26 TotT.zero.f ∧ Blk wz k 26 TotT.zero.f) ⟨(((((q1.setCell HE.out.ng _).setCell HE.out.ng _).setCell HE.out.ng _).setCell HE.out.ng _).setCell HE.out.ng _), (((((kg.set 0 _).set 1 _).set 2 _).set 3 _).set 4 _), (((((kh.set_other _ 0 HE.out.gh.symm _).set_other _ 1 HE.out.gh.symm _).set_other _ 2 HE.out.gh.symm _).set_other _ 3 HE.out.gh.symm _).set_other _ 4 HE.out.gh.symm _), (((((kk.set_other _ 0 HE.out.gk.symm _).set_other _ 1 HE.out.gk.symm _).set_other _ 2 HE.out.gk.symm _).set_other _ 3 HE.out.gk.symm _).set_other _ 4 HE.out.gk.symm _)⟩ ?_
      clear q1 kg kh kk
      intro wz hz
      have q1 := hz.1
      have kg := hz.2.1
      have kh := hz.2.2.1
      have kk := hz.2.2.2
      clear hz
      (have f0 := kh.frozen 0; have f1 := kh.frozen 1; have f2 := kh.frozen 2; have f3 := kh.frozen 3; have f4 := kh.frozen 4; have c0 := kh.cell 0 _ rfl; have c1 := kh.cell 1 _ rfl; have c2 := kh.cell 2 _ rfl; have c3 := kh.cell 3 _ rfl; have c4 := kh.cell 4 _ rfl; refine wpAny_ready (rs := [13]) (by kernel_rfl) (by simp) ?_; refine AllReady.cons rfl (fun K hK => ?_) AllReady.nil; go_simp; refine hK _ _ ?_; clear hK K f0 f1 f2 f3 f4 c0 c1 c2 c3 c4)
      refine wpAny_letter (fun wz => Below W.heap.size W wz ∧ Blk wz g 26 X.f ∧ Blk wz h 26 Y.f ∧ Blk wz k 26 TotT.zero.f) ⟨(((((q1.setCell HE.out.nh _).setCell HE.out.nh _).setCell HE.out.nh _).setCell HE.out.nh _).setCell HE.out.nh _), (((((kg.set_other _ 0 HE.out.gh _).set_other _ 1 HE.out.gh _).set_other _ 2 HE.out.gh _).set_other _ 3 HE.out.gh _).set_other _ 4 HE.out.gh _), (((((kh.set 0 _).set 1 _).set 2 _).set 3 _).set 4 _), (((((kk.set_other _ 0 HE.out.hk.symm _).set_other _ 1 HE.out.hk.symm _).set_other _ 2 HE.out.hk.symm _).set_other _ 3 HE.out.hk.symm _).set_other _ 4 HE.out.hk.symm _)⟩ ?_
      clear q1 kg kh kk
      clear wz
      intro wz hz
      have q1 := hz.1
      have kg := hz.2.1
      have kh := hz.2.2.1
      have kk := hz.2.2.2
      clear hz
      (have f0 := kk.frozen 0; have f1 := kk.frozen 1; have f2 := kk.frozen 2; have f3 := kk.frozen 3; have f4 := kk.frozen 4; have c0 := kk.cell 0 _ rfl; have c1 := kk.cell 1 _ rfl; have c2 := kk.cell 2 _ rfl; have c3 := kk.cell 3 _ rfl; have c4 := kk.cell 4 _ rfl; refine wpAny_ready (rs := [14]) (by kernel_rfl) (by simp) ?_; refine AllReady.cons rfl (fun K hK => ?_) AllReady.nil; go_simp; refine hK _ _ ?_; clear hK K f0 f1 f2 f3 f4 c0 c1 c2 c3 c4)
      refine wpAny_letter (fun wz => Below W.heap.size W wz ∧ Blk wz g 26 X.f ∧ Blk wz h 26 Y.f ∧ Blk wz k 26 Z.f) ⟨(((((q1.setCell HE.out.nk _).setCell HE.out.nk _).setCell HE.out.nk _).setCell HE.out.nk _).setCell HE.out.nk _), (((((kg.set_other _ 0 HE.out.gk _).set_other _ 1 HE.out.gk _).set_other _ 2 HE.out.gk _).set_other _ 3 HE.out.gk _).set_other _ 4 HE.out.gk _), (((((kh.set_other _ 0 HE.out.hk _).set_other _ 1 HE.out.hk _).set_other _ 2 HE.out.hk _).set_other _ 3 HE.out.hk _).set_other _ 4 HE.out.hk _), (((((kk.set 0 _).set 1 _).set 2 _).set 3 _).set 4 _)⟩ ?_
      clear q1 kg kh kk
      clear wz
      intro wz hz
      refine wpAny_done (by kernel_rfl) ?_ _
      go_wp2_with fail
      go_meet
      case rel => exact ⟨X, Y, Z, g, h, k, rfl, rfl, rfl, HE.out.xb, HE.out.yb, HE.out.zb, hz.1, hz.2.1, hz.2.2.1, hz.2.2.2⟩
  case rest =>
    clear cW T0 T1 T2
    obtain ⟨X, Y, Z, g, h, k, rfl, rfl, rfl, hX, hY, hZ, hW2, kg, kh, kk⟩ := hcut
    have bW : Below w.heap.size w wc := below_then hW hW2
    clear hW hW2 eA eB eC
    have cW : ∀ wx, Below wc.heap.size wc wx → (wx.cell? ⟨g, 0, none⟩ = some (.int .i64 X.p) ∧ wx.cell? ⟨g, 1, none⟩ = some (.int .i64 X.q) ∧ wx.cell? ⟨g, 2, none⟩ = some (.int .i64 X.i) ∧ wx.cell? ⟨g, 3, none⟩ = some (.int .i64 X.r) ∧ wx.cell? ⟨g, 4, none⟩ = some (.int .i64 X.d)) ∧ (wx.cell? ⟨h, 0, none⟩ = some (.int .i64 Y.p) ∧ wx.cell? ⟨h, 1, none⟩ = some (.int .i64 Y.q) ∧ wx.cell? ⟨h, 2, none⟩ = some (.int .i64 Y.i) ∧ wx.cell? ⟨h, 3, none⟩ = some (.int .i64 Y.r) ∧ wx.cell? ⟨h, 4, none⟩ = some (.int .i64 Y.d)) ∧ (wx.cell? ⟨k, 0, none⟩ = some (.int .i64 Z.p) ∧ wx.cell? ⟨k, 1, none⟩ = some (.int .i64 Z.q) ∧ wx.cell? ⟨k, 2, none⟩ = some (.int .i64 Z.i) ∧ wx.cell? ⟨k, 3, none⟩ = some (.int .i64 Z.r) ∧ wx.cell? ⟨k, 4, none⟩ = some (.int .i64 Z.d)) := fun wx bx => by
      have hA := kg.then bx
      have hB := kh.then bx
      have hC := kk.then bx
      exact ⟨⟨hA.cell 0 _ rfl, hA.cell 1 _ rfl, hA.cell 2 _ rfl, hA.cell 3 _ rfl, hA.cell 4 _ rfl⟩, ⟨hB.cell 0 _ rfl, hB.cell 1 _ rfl, hB.cell 2 _ rfl, hB.cell 3 _ rfl, hB.cell 4 _ rfl⟩, hC.cell 0 _ rfl, hC.cell 1 _ rfl, hC.cell 2 _ rfl, hC.cell 3 _ rfl, hC.cell 4 _ rfl⟩
    clear kg kh kk
    obtain ⟨S, eS⟩ : ∃ S, X.plus Y = S := ⟨_, rfl⟩
    obtain ⟨T, eT⟩ : ∃ T, S.plus Z = T := ⟨_, rfl⟩
    obtain ⟨U, eU⟩ : ∃ U, Y.plus Z = U := ⟨_, rfl⟩
    obtain ⟨CX, eCX⟩ : ∃ C, X.cash = C := ⟨_, rfl⟩
    obtain ⟨CY, eCY⟩ : ∃ C, Y.cash = C := ⟨_, rfl⟩
    obtain ⟨CS, eCS⟩ : ∃ C, S.cash = C := ⟨_, rfl⟩
    have bS : S.Bd (13194139533312 + 13194139533312) := eS ▸ hX.plus hY
    have bU : U.Bd (13194139533312 + 13194139533312) := eU ▸ hY.plus hZ
    have hw : IntKind.i64.wrap (CX + CY) = CS := by
      rw [← eCS, ← eS, TotT.cash_plus, eCX, eCY]
      have h1 := hX.cash
      have h2 := hY.cash
      rw [eCX] at h1
      rw [eCY] at h2
      exact wrap_in _ (by omega) (by omega)
    have P1 : Hid (_) := tplus_k eS hX hY (by omega)
    have P2 : Hid (_) := tplus_k ((TotT.plus_comm Y X).trans eS) hY hX (by omega)
    have P3 : Hid (_) := tplus_k eT bS hZ (by omega)
    have P4 : Hid (_) := tplus_k eU hY hZ (by omega)
    have P5 : Hid (_) := tplus_k (t := X) (o := U) (s := T) (by rw [← eT, ← eU, ← eS, TotT.plus_assoc]) hX bU (by omega)
    have P6 : Hid (∀ (w : World) (R : Ending → World → Prop), (∀ w', Below w.heap.size w w' → R (.returned (.agg #[.int .i64 X.p, .int .i64 X.q, .int .i64 X.i, .int .i64 X.r, .int .i64 X.d])) w') → Calls Try.prog 12 #[(.agg #[.int .i64 X.p, .int .i64 X.q, .int .i64 X.i, .int .i64 X.r, .int .i64 X.d]), .agg #[.int .i64 0, .int .i64 0, .int .i64 0, .int .i64 0, .int .i64 0]] w R) := tplus_k (t := X) (o := TotT.zero) (s := X) (TotT.plus_zero X) hX TotT.zero_bd (by omega)
    have P7 : Hid (_) := cash_k eCS (bS.mono (by omega))
    have P8 : Hid (_) := cash_k eCX (hX.mono (by omega))
    have P9 : Hid (_) := cash_k eCY (hY.mono (by omega))
    clear eS eT eU eCX eCY eCS bS bU hX hY hZ
    go_upto_region 2 with fail
    have hB : Below wc.heap.size wc wc.drew := (Below.refl _ _).drew
    go_region_held3 (fun wx => Below wc.heap.size wc wx ∧ (wx.cell? ⟨g, 0, none⟩ = some (.int .i64 X.p) ∧ wx.cell? ⟨g, 1, none⟩ = some (.int .i64 X.q) ∧ wx.cell? ⟨g, 2, none⟩ = some (.int .i64 X.i) ∧ wx.cell? ⟨g, 3, none⟩ = some (.int .i64 X.r) ∧ wx.cell? ⟨g, 4, none⟩ = some (.int .i64 X.d)) ∧ (wx.cell? ⟨h, 0, none⟩ = some (.int .i64 Y.p) ∧ wx.cell? ⟨h, 1, none⟩ = some (.int .i64 Y.q) ∧ wx.cell? ⟨h, 2, none⟩ = some (.int .i64 Y.i) ∧ wx.cell? ⟨h, 3, none⟩ = some (.int .i64 Y.r) ∧ wx.cell? ⟨h, 4, none⟩ = some (.int .i64 Y.d)) ∧ (wx.cell? ⟨k, 0, none⟩ = some (.int .i64 Z.p) ∧ wx.cell? ⟨k, 1, none⟩ = some (.int .i64 Z.q) ∧ wx.cell? ⟨k, 2, none⟩ = some (.int .i64 Z.i) ∧ wx.cell? ⟨k, 3, none⟩ = some (.int .i64 Z.r) ∧ wx.cell? ⟨k, 4, none⟩ = some (.int .i64 Z.d))) (exact held (cW _) hB) (first | (with_reducible refine P1.out _ _ (fun wl bn => ?_); replace hB := below_then hB bn) | (with_reducible refine P2.out _ _ (fun wl bn => ?_); replace hB := below_then hB bn) | (with_reducible refine P3.out _ _ (fun wl bn => ?_); replace hB := below_then hB bn) | (with_reducible refine P4.out _ _ (fun wl bn => ?_); replace hB := below_then hB bn) | (with_reducible refine P5.out _ _ (fun wl bn => ?_); replace hB := below_then hB bn) | (with_reducible refine P6.out _ _ (fun wl bn => ?_); replace hB := below_then hB bn) | (with_reducible refine P7.out _ _ (fun wl bn => ?_); replace hB := below_then hB bn) | (with_reducible refine P8.out _ _ (fun wl bn => ?_); replace hB := below_then hB bn) | (with_reducible refine P9.out _ _ (fun wl bn => ?_); replace hB := below_then hB bn) | (with_reducible refine tapeRuns_k _ _ (fun wl bn => ?_); replace hB := below_then hB bn))
    go_wp2
    go_ret
    exact ⟨rfl, below_then bW hB⟩
theorem tapePlus_law (v0 v1 v2 : Value) (w : World) (w0 : Arg w (.struct (.cons 1 (.slice 1 (.int .i64)) (.cons 1 (.slice 1 (.int .i64)) (.cons 1 (.slice 1 (.int .i64)) (.cons 1 (.slice 1 (.int .i64)) (.cons 1 (.slice 1 (.int .i64)) (.cons 1 (.slice 1 (.int .i64)) .nil))))))) v0) (w1 : Arg w (.struct (.cons 1 (.slice 1 (.int .i64)) (.cons 1 (.slice 1 (.int .i64)) (.cons 1 (.slice 1 (.int .i64)) (.cons 1 (.slice 1 (.int .i64)) (.cons 1 (.slice 1 (.int .i64)) (.cons 1 (.slice 1 (.int .i64)) .nil))))))) v1) (w2 : Arg w (.struct (.cons 1 (.slice 1 (.int .i64)) (.cons 1 (.slice 1 (.int .i64)) (.cons 1 (.slice 1 (.int .i64)) (.cons 1 (.slice 1 (.int .i64)) (.cons 1 (.slice 1 (.int .i64)) (.cons 1 (.slice 1 (.int .i64)) .nil))))))) v2) :
    Calls Try.prog 6 #[v0, v1, v2] w fun e w' => e = .returned (.bool true) ∧ Below w.heap.size w w' := tapePlus_any v0 v1 v2 w (arg_tape w0) (arg_tape w1) (arg_tape w2)
end Go.Proofs.Ytibakfhalabdaaa
