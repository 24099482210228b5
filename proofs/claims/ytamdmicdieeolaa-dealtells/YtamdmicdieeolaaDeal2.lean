/-
  Package deal: the walk of Steps.
-/
import Derived.Test.YtamdmicdieeolaaDeal1
import Derived.Test.YtamdmicdieeolaaOrd
namespace Go.Proofs.Ytamdmicdieeolaa
open Go.RowKit

set_option maxHeartbeats 2000000 in
theorem steps_any (v : Value) (xs : List StT) (w : World) (h : Lies 2 StT.f w v xs) :
    Calls Try.prog 11 #[v] w fun e w' => e = .returned (.bool (stepsP xs)) ∧ Below w.heap.size w w' := by
  unfold stepsP
  obtain ⟨a, cap, rfl, _, _, _, _⟩ := id h
  obtain ⟨n, hn⟩ : ∃ n, xs.length = n := ⟨_, rfl⟩
  rw [hn] at h ⊢
  have hl := h.len
  unfold maxLen at hl
  have hm : n ≤ 9223372036854775807 := by omega
  have hcap : n ≤ cap := hl.2.1
  have H : Hid (Lies 2 StT.f w (.slice a n cap) xs) := h
  have HN : Hid (xs.length = n) := hn
  obtain ⟨A, hA⟩ : ∃ A, inL 1 16 [(n : Int)] = A := ⟨_, rfl⟩
  rw [hA]
  have HA : Hid (inL 1 16 [(n : Int)] = A) := hA
  obtain ⟨V, hV⟩ : ∃ V, stepsFrom [] xs = V := ⟨_, rfl⟩
  rw [hV]
  have HV : Hid (stepsFrom (xs.take 0) (xs.drop 0) = V) := hV
  clear h hl hn hA hV
  cases A with
  | false =>
    go_enter Try.func11, Try.ntmps11
    go_wp2_with (go_at_call 25; refine (dwithin_k HA.out).mono ?_; rintro e w1 ⟨rfl, d1⟩)
    go_ret
    exact ⟨rfl, d1⟩
  | true =>
    rw [Bool.true_and]
    go_enter Try.func11, Try.ntmps11
    go_wp2_with (go_at_call 25; refine (dwithin_k HA.out).mono ?_; rintro e w1 ⟨rfl, d1⟩)
    go_loopw [12] (fun i wr => ∃ k : Nat, k ≤ n ∧ i = .int .i64 k ∧ stepsFrom (xs.take k) (xs.drop k) = V ∧ Below w.heap.size w wr) (fun i _ => n - (intOf i).toNat)
    case atStart => exact ⟨0, Nat.zero_le _, rfl, HV.out, d1⟩
    case round =>
    clear d1
    obtain ⟨k, hk, rfl, hr, hB⟩ := hrel
    by_cases hlt : k < n
    · obtain ⟨b, off, x, rfl, hx, hmem, d0, d1⟩ := H.out.st k hlt
      replace d0 := cell_keep hB d0
      replace d1 := cell_keep hB d1
      rw [stepsFrom_at xs k x hx] at hr
      obtain ⟨B1, e1⟩ : ∃ B, x.ok = B := ⟨_, rfl⟩
      obtain ⟨B2, e2⟩ : ∃ B, ((xs.take k).any fun y => x.eq y) = B := ⟨_, rfl⟩
      rw [e1, e2] at hr
      have E1 : Hid (x.ok = B1) := e1
      have E2 : Hid (((xs.take k).any fun y => x.eq y) = B2) := e2
      have HR : Hid ((B1 && !B2 && stepsFrom (xs.take (k + 1)) (xs.drop (k + 1))) = V) := hr
      have LT : Hid (Lies 2 StT.f wr (.slice (some ⟨b, off, none⟩) k cap) (xs.take k)) := (H.out.take k hk).below hB
      clear hr e1 e2 hx hmem HV
      obtain ⟨kd, rk⟩ := x
      simp only at d0 d1
      go_upto_region 6 with fail
      refine wp_letter (fun wx => ∃ g, wr.heap.size = g ∧ Blk wx g 37 (StT.f ⟨kd, rk⟩) ∧ Below wr.heap.size wr wx) ⟨_, rfl, Blk.fresh _ _ (StT.f ⟨kd, rk⟩), below_alloc (Below.refl _ _) _⟩ ?_
      rintro W ⟨g, eg, bg, hW⟩
      rw [eg]
      clear eg d0 d1
      have c0 := bg.cell 0 _ rfl
      have c1 := bg.cell 1 _ rfl
      have hBW := below_then hB hW
      have LW : Hid (Lies 2 StT.f W (.slice (some ⟨b, off, none⟩) k cap) (xs.take k)) := LT.out.below hW
      have k0 : (0 : Int) ≤ (k : Int) := by omega
      have k1 : (k : Int) ≤ (cap : Int) := by omega
      have k2 : (k : Int) ≤ (n : Int) := by omega
      have cW : ∀ wx, Below W.heap.size W wx → wx.cell? ⟨g, 0, none⟩ = some (.int .i64 kd) ∧ wx.cell? ⟨g, 1, none⟩ = some (.int .i64 rk) := fun wx bx => ⟨cell_keep bx c0, cell_keep bx c1⟩
      have P1 : Hid (∀ (w : World) (R : Ending → World → Prop), (∀ w', Below w.heap.size w w' → R (.returned (.bool B1)) w') → Calls Try.prog 26 #[.agg #[.int .i64 kd, .int .i64 rk]] w R) := fun w R h => (dstep_any ⟨kd, rk⟩ w).mono (by rintro e w' ⟨rfl, d⟩; rw [E1.out]; exact h w' d)
      have P2 : Hid (∀ (w : World) (R : Ending → World → Prop), Below W.heap.size W w → (∀ w', Below w.heap.size w w' → R (.returned (.bool B2)) w') → Calls Try.prog 27 #[.slice (some ⟨b, off, none⟩) k cap, .agg #[.int .i64 kd, .int .i64 rk]] w R) := fun w R hb h => (dcontains_any _ (xs.take k) ⟨kd, rk⟩ w (LW.out.below hb)).mono (by rintro e w' ⟨rfl, d⟩; rw [E2.out]; exact h w' d)
      clear hcap
      go_upto_region 6 with fail
      go_cut [26] (fun c wx => c = .bool (!B1 || B2) ∧ Below W.heap.size W wx)
      case first =>
        clear E1 E2 LT LW
        cases B1 with
        | false =>
          refine wp_region_ps [17, 18, 19, 20, 21, 22, 23, 24, 25, 26] [fun v _ => v = (.agg #[.int .i64 kd, .int .i64 rk] : Value), fun v _ => v = (.bool false : Value), fun v _ => v = (.bool true : Value), fun v _ => v = (.bool true : Value), fun v _ => v = (undef : Value), fun v _ => v = (undef : Value), fun v _ => v = (undef : Value), fun v _ => v = (undef : Value), fun v _ => v = (undef : Value), fun v _ => v = (.bool true : Value)] [] [0, 1, 2, 3, 4, 5, 6, 7, 8, 9] #[true, true, true, true, true, true, true, true, true, true] 0 (by kernel_rfl) (by kernel_rfl) (by kernel_rfl) (by kernel_rfl) ?_ ?_ ?_
          · intro p hp
            simp only [List.mem_cons, List.not_mem_nil, or_false] at hp
            rcases hp with rfl | rfl | rfl | rfl | rfl | rfl | rfl | rfl | rfl | rfl <;> exact bears_is _
          · have bD : Below W.heap.size W W.drew := (Below.refl _ _).drew
            refine StepsF.cons rfl rfl (fun x wx hB hF K hK => ?_) ?_
            · have q1 : Below W.heap.size W wx := below_then bD hB
              have p0 := (cW wx q1).1; have p1 := (cW wx q1).2
              simp only [acts, Act.put, List.getD_cons_zero, List.getD_cons_succ, List.setIfInBounds_toArray, List.set_cons_zero, List.set_cons_succ]
              go_simp
              refine hK.out _ _ (after_mk (.agg #[.int .i64 kd, .int .i64 rk] : Value) ?_ (Below.refl _ _) rfl (fun h => absurd h (by decide)))
              simp only [acts, Act.put, List.getD_cons_zero, List.getD_cons_succ, List.setIfInBounds_toArray, List.set_cons_zero, List.set_cons_succ]
            refine StepsF.cons rfl rfl (fun x wx hB hF K hK => ?_) ?_
            · have f0 : x 0 = (.agg #[.int .i64 kd, .int .i64 rk] : Value) := hF 0 (by decide) (by kernel_rfl)
              have q1 : Below W.heap.size W wx := below_then bD hB
              simp only [acts, Act.put, List.getD_cons_zero, List.getD_cons_succ, List.setIfInBounds_toArray, List.set_cons_zero, List.set_cons_succ]
              go_simp
              try simp only [f0]
              with_reducible refine P1.out _ _ (fun wy hb => ?_)
              refine hK.out _ _ (after_mk (.bool false : Value) ?_ hb rfl (fun h => absurd h (by decide)))
              simp only [acts, Act.put, List.getD_cons_zero, List.getD_cons_succ, List.setIfInBounds_toArray, List.set_cons_zero, List.set_cons_succ]
              try simp only [f0]
            refine StepsF.cons rfl rfl (fun x wx hB hF K hK => ?_) ?_
            · have f1 : x 1 = (.bool false : Value) := hF 1 (by decide) (by kernel_rfl)
              simp only [acts, Act.put, List.getD_cons_zero, List.getD_cons_succ, List.setIfInBounds_toArray, List.set_cons_zero, List.set_cons_succ]
              go_simp
              refine hK.out _ _ (after_mk (.bool true : Value) ?_ (Below.refl _ _) rfl (fun h => absurd h (by decide)))
              simp only [acts, Act.put, List.getD_cons_zero, List.getD_cons_succ, List.setIfInBounds_toArray, List.set_cons_zero, List.set_cons_succ]
              try simp only [f1]
            refine StepsF.cons rfl rfl (fun x wx hB hF K hK => ?_) ?_
            · have f2 : x 2 = (.bool true : Value) := hF 2 (by decide) (by kernel_rfl)
              simp only [acts, Act.put, List.getD_cons_zero, List.getD_cons_succ, List.setIfInBounds_toArray, List.set_cons_zero, List.set_cons_succ]
              go_simp
              refine hK.out _ _ (after_mk (.bool true : Value) ?_ (Below.refl _ _) rfl (fun h => absurd h (by decide)))
              simp only [acts, Act.put, List.getD_cons_zero, List.getD_cons_succ, List.setIfInBounds_toArray, List.set_cons_zero, List.set_cons_succ]
              try simp only [f2]
            refine StepsF.cons rfl rfl (fun x wx hB hF K hK => ?_) ?_
            · have f3 : x 3 = (.bool true : Value) := hF 3 (by decide) (by kernel_rfl)
              simp only [acts, Act.put, List.getD_cons_zero, List.getD_cons_succ, List.setIfInBounds_toArray, List.set_cons_zero, List.set_cons_succ]
              go_simp
              refine hK.out _ _ (after_mk (undef : Value) ?_ (Below.refl _ _) rfl (fun h => absurd h (by decide)))
              simp only [acts, Act.put, List.getD_cons_zero, List.getD_cons_succ, List.setIfInBounds_toArray, List.set_cons_zero, List.set_cons_succ]
              try simp only [f3]
            refine StepsF.cons rfl rfl (fun x wx hB hF K hK => ?_) ?_
            · have f3 : x 3 = (.bool true : Value) := hF 3 (by decide) (by kernel_rfl)
              simp only [acts, Act.put, List.getD_cons_zero, List.getD_cons_succ, List.setIfInBounds_toArray, List.set_cons_zero, List.set_cons_succ]
              go_simp
              refine hK.out _ _ (after_mk (undef : Value) ?_ (Below.refl _ _) rfl (fun h => absurd h (by decide)))
              simp only [acts, Act.put, List.getD_cons_zero, List.getD_cons_succ, List.setIfInBounds_toArray, List.set_cons_zero, List.set_cons_succ]
              try simp only [f3]
            refine StepsF.cons rfl rfl (fun x wx hB hF K hK => ?_) ?_
            · have f3 : x 3 = (.bool true : Value) := hF 3 (by decide) (by kernel_rfl)
              simp only [acts, Act.put, List.getD_cons_zero, List.getD_cons_succ, List.setIfInBounds_toArray, List.set_cons_zero, List.set_cons_succ]
              go_simp
              refine hK.out _ _ (after_mk (undef : Value) ?_ (Below.refl _ _) rfl (fun h => absurd h (by decide)))
              simp only [acts, Act.put, List.getD_cons_zero, List.getD_cons_succ, List.setIfInBounds_toArray, List.set_cons_zero, List.set_cons_succ]
              try simp only [f3]
            refine StepsF.cons rfl rfl (fun x wx hB hF K hK => ?_) ?_
            · have f3 : x 3 = (.bool true : Value) := hF 3 (by decide) (by kernel_rfl)
              simp only [acts, Act.put, List.getD_cons_zero, List.getD_cons_succ, List.setIfInBounds_toArray, List.set_cons_zero, List.set_cons_succ]
              go_simp
              refine hK.out _ _ (after_mk (undef : Value) ?_ (Below.refl _ _) rfl (fun h => absurd h (by decide)))
              simp only [acts, Act.put, List.getD_cons_zero, List.getD_cons_succ, List.setIfInBounds_toArray, List.set_cons_zero, List.set_cons_succ]
              try simp only [f3]
            refine StepsF.cons rfl rfl (fun x wx hB hF K hK => ?_) ?_
            · have f3 : x 3 = (.bool true : Value) := hF 3 (by decide) (by kernel_rfl)
              simp only [acts, Act.put, List.getD_cons_zero, List.getD_cons_succ, List.setIfInBounds_toArray, List.set_cons_zero, List.set_cons_succ]
              go_simp
              refine hK.out _ _ (after_mk (undef : Value) ?_ (Below.refl _ _) rfl (fun h => absurd h (by decide)))
              simp only [acts, Act.put, List.getD_cons_zero, List.getD_cons_succ, List.setIfInBounds_toArray, List.set_cons_zero, List.set_cons_succ]
              try simp only [f3]
            refine StepsF.cons rfl rfl (fun x wx hB hF K hK => ?_) ?_
            · have f3 : x 3 = (.bool true : Value) := hF 3 (by decide) (by kernel_rfl)
              have f8 : x 8 = (undef : Value) := hF 8 (by decide) (by kernel_rfl)
              simp only [acts, Act.put, List.getD_cons_zero, List.getD_cons_succ, List.setIfInBounds_toArray, List.set_cons_zero, List.set_cons_succ]
              go_simp
              refine hK.out _ _ (after_mk (.bool true : Value) ?_ (Below.refl _ _) rfl (fun h => absurd h (by decide)))
              simp only [acts, Act.put, List.getD_cons_zero, List.getD_cons_succ, List.setIfInBounds_toArray, List.set_cons_zero, List.set_cons_succ]
              try simp only [f3, f8]
            exact StepsF.nil
          · intro x wx hB hF hne fuel
            have q1 : Below W.heap.size W wx := below_then (Below.refl _ _).drew hB
            have v0 : x 0 = (.agg #[.int .i64 kd, .int .i64 rk] : Value) := hF 0 (by decide)
            have v1 : x 1 = (.bool false : Value) := hF 1 (by decide)
            have v2 : x 2 = (.bool true : Value) := hF 2 (by decide)
            have v3 : x 3 = (.bool true : Value) := hF 3 (by decide)
            have v4 : x 4 = (undef : Value) := hF 4 (by decide)
            have v5 : x 5 = (undef : Value) := hF 5 (by decide)
            have v6 : x 6 = (undef : Value) := hF 6 (by decide)
            have v7 : x 7 = (undef : Value) := hF 7 (by decide)
            have v8 : x 8 = (undef : Value) := hF 8 (by decide)
            have v9 : x 9 = (.bool true : Value) := hF 9 (by decide)
            clear hB hF hne
            simp only [acts, Act.put, List.getD_cons_zero, List.getD_cons_succ, List.setIfInBounds_toArray, List.set_cons_zero, List.set_cons_succ]
            rw [v0, v1, v2, v3, v4, v5, v6, v7, v8, v9]
            clear v0 v1 v2 v3 v4 v5 v6 v7 v8 v9
            refine wpAny_done (by kernel_rfl) ?_ _
            go_wp2
            go_meet
            case rel => exact ⟨rfl, q1⟩
        | true =>
          refine wp_region_ps [17, 18, 19, 20, 21, 22, 23, 24, 25, 26] [fun v _ => v = (.agg #[.int .i64 kd, .int .i64 rk] : Value), fun v _ => v = (.bool true : Value), fun v _ => v = (.bool false : Value), fun v _ => v = (.bool false : Value), fun v _ => v = (.slice (some ⟨b, off, none⟩) n cap : Value), fun v _ => v = (.int .i64 k : Value), fun v _ => v = (.slice (some ⟨b, off, none⟩) k cap : Value), fun v _ => v = (.agg #[.int .i64 kd, .int .i64 rk] : Value), fun v _ => v = (.bool B2 : Value), fun v _ => v = (.bool B2 : Value)] [] [0, 1, 2, 3, 4, 5, 6, 7, 8, 9] #[true, true, true, true, true, true, true, true, true, true] 0 (by kernel_rfl) (by kernel_rfl) (by kernel_rfl) (by kernel_rfl) ?_ ?_ ?_
          · intro p hp
            simp only [List.mem_cons, List.not_mem_nil, or_false] at hp
            rcases hp with rfl | rfl | rfl | rfl | rfl | rfl | rfl | rfl | rfl | rfl <;> exact bears_is _
          · have bD : Below W.heap.size W W.drew := (Below.refl _ _).drew
            refine StepsF.cons rfl rfl (fun x wx hB hF K hK => ?_) ?_
            · have q1 : Below W.heap.size W wx := below_then bD hB
              have p0 := (cW wx q1).1; have p1 := (cW wx q1).2
              simp only [acts, Act.put, List.getD_cons_zero, List.getD_cons_succ, List.setIfInBounds_toArray, List.set_cons_zero, List.set_cons_succ]
              go_simp
              refine hK.out _ _ (after_mk (.agg #[.int .i64 kd, .int .i64 rk] : Value) ?_ (Below.refl _ _) rfl (fun h => absurd h (by decide)))
              simp only [acts, Act.put, List.getD_cons_zero, List.getD_cons_succ, List.setIfInBounds_toArray, List.set_cons_zero, List.set_cons_succ]
            refine StepsF.cons rfl rfl (fun x wx hB hF K hK => ?_) ?_
            · have f0 : x 0 = (.agg #[.int .i64 kd, .int .i64 rk] : Value) := hF 0 (by decide) (by kernel_rfl)
              have q1 : Below W.heap.size W wx := below_then bD hB
              simp only [acts, Act.put, List.getD_cons_zero, List.getD_cons_succ, List.setIfInBounds_toArray, List.set_cons_zero, List.set_cons_succ]
              go_simp
              try simp only [f0]
              with_reducible refine P1.out _ _ (fun wy hb => ?_)
              refine hK.out _ _ (after_mk (.bool true : Value) ?_ hb rfl (fun h => absurd h (by decide)))
              simp only [acts, Act.put, List.getD_cons_zero, List.getD_cons_succ, List.setIfInBounds_toArray, List.set_cons_zero, List.set_cons_succ]
              try simp only [f0]
            refine StepsF.cons rfl rfl (fun x wx hB hF K hK => ?_) ?_
            · have f1 : x 1 = (.bool true : Value) := hF 1 (by decide) (by kernel_rfl)
              simp only [acts, Act.put, List.getD_cons_zero, List.getD_cons_succ, List.setIfInBounds_toArray, List.set_cons_zero, List.set_cons_succ]
              go_simp
              refine hK.out _ _ (after_mk (.bool false : Value) ?_ (Below.refl _ _) rfl (fun h => absurd h (by decide)))
              simp only [acts, Act.put, List.getD_cons_zero, List.getD_cons_succ, List.setIfInBounds_toArray, List.set_cons_zero, List.set_cons_succ]
              try simp only [f1]
            refine StepsF.cons rfl rfl (fun x wx hB hF K hK => ?_) ?_
            · have f2 : x 2 = (.bool false : Value) := hF 2 (by decide) (by kernel_rfl)
              simp only [acts, Act.put, List.getD_cons_zero, List.getD_cons_succ, List.setIfInBounds_toArray, List.set_cons_zero, List.set_cons_succ]
              go_simp
              refine hK.out _ _ (after_mk (.bool false : Value) ?_ (Below.refl _ _) rfl (fun h => absurd h (by decide)))
              simp only [acts, Act.put, List.getD_cons_zero, List.getD_cons_succ, List.setIfInBounds_toArray, List.set_cons_zero, List.set_cons_succ]
              try simp only [f2]
            refine StepsF.cons rfl rfl (fun x wx hB hF K hK => ?_) ?_
            · have f3 : x 3 = (.bool false : Value) := hF 3 (by decide) (by kernel_rfl)
              simp only [acts, Act.put, List.getD_cons_zero, List.getD_cons_succ, List.setIfInBounds_toArray, List.set_cons_zero, List.set_cons_succ]
              go_simp
              refine hK.out _ _ (after_mk (.slice (some ⟨b, off, none⟩) n cap : Value) ?_ (Below.refl _ _) rfl (fun h => absurd h (by decide)))
              simp only [acts, Act.put, List.getD_cons_zero, List.getD_cons_succ, List.setIfInBounds_toArray, List.set_cons_zero, List.set_cons_succ]
              try simp only [f3]
            refine StepsF.cons rfl rfl (fun x wx hB hF K hK => ?_) ?_
            · have f3 : x 3 = (.bool false : Value) := hF 3 (by decide) (by kernel_rfl)
              simp only [acts, Act.put, List.getD_cons_zero, List.getD_cons_succ, List.setIfInBounds_toArray, List.set_cons_zero, List.set_cons_succ]
              go_simp
              refine hK.out _ _ (after_mk (.int .i64 k : Value) ?_ (Below.refl _ _) rfl (fun h => absurd h (by decide)))
              simp only [acts, Act.put, List.getD_cons_zero, List.getD_cons_succ, List.setIfInBounds_toArray, List.set_cons_zero, List.set_cons_succ]
              try simp only [f3]
            refine StepsF.cons rfl rfl (fun x wx hB hF K hK => ?_) ?_
            · have f4 : x 4 = (.slice (some ⟨b, off, none⟩) n cap : Value) := hF 4 (by decide) (by kernel_rfl)
              have f5 : x 5 = (.int .i64 k : Value) := hF 5 (by decide) (by kernel_rfl)
              have f3 : x 3 = (.bool false : Value) := hF 3 (by decide) (by kernel_rfl)
              simp only [acts, Act.put, List.getD_cons_zero, List.getD_cons_succ, List.setIfInBounds_toArray, List.set_cons_zero, List.set_cons_succ]
              go_simp
              refine hK.out _ _ (after_mk (.slice (some ⟨b, off, none⟩) k cap : Value) ?_ (Below.refl _ _) rfl (fun h => absurd h (by decide)))
              simp only [acts, Act.put, List.getD_cons_zero, List.getD_cons_succ, List.setIfInBounds_toArray, List.set_cons_zero, List.set_cons_succ]
              try simp only [f4, f5, f3]
            refine StepsF.cons rfl rfl (fun x wx hB hF K hK => ?_) ?_
            · have f3 : x 3 = (.bool false : Value) := hF 3 (by decide) (by kernel_rfl)
              have q1 : Below W.heap.size W wx := below_then bD hB
              have p0 := (cW wx q1).1; have p1 := (cW wx q1).2
              simp only [acts, Act.put, List.getD_cons_zero, List.getD_cons_succ, List.setIfInBounds_toArray, List.set_cons_zero, List.set_cons_succ]
              go_simp
              refine hK.out _ _ (after_mk (.agg #[.int .i64 kd, .int .i64 rk] : Value) ?_ (Below.refl _ _) rfl (fun h => absurd h (by decide)))
              simp only [acts, Act.put, List.getD_cons_zero, List.getD_cons_succ, List.setIfInBounds_toArray, List.set_cons_zero, List.set_cons_succ]
              try simp only [f3]
            refine StepsF.cons rfl rfl (fun x wx hB hF K hK => ?_) ?_
            · have f6 : x 6 = (.slice (some ⟨b, off, none⟩) k cap : Value) := hF 6 (by decide) (by kernel_rfl)
              have f7 : x 7 = (.agg #[.int .i64 kd, .int .i64 rk] : Value) := hF 7 (by decide) (by kernel_rfl)
              have f3 : x 3 = (.bool false : Value) := hF 3 (by decide) (by kernel_rfl)
              have q1 : Below W.heap.size W wx := below_then bD hB
              simp only [acts, Act.put, List.getD_cons_zero, List.getD_cons_succ, List.setIfInBounds_toArray, List.set_cons_zero, List.set_cons_succ]
              go_simp
              try simp only [f6, f7, f3]
              with_reducible refine P2.out _ _ q1 (fun wy hb => ?_)
              refine hK.out _ _ (after_mk (.bool B2 : Value) ?_ hb rfl (fun h => absurd h (by decide)))
              simp only [acts, Act.put, List.getD_cons_zero, List.getD_cons_succ, List.setIfInBounds_toArray, List.set_cons_zero, List.set_cons_succ]
              try simp only [f6, f7, f3]
            refine StepsF.cons rfl rfl (fun x wx hB hF K hK => ?_) ?_
            · have f3 : x 3 = (.bool false : Value) := hF 3 (by decide) (by kernel_rfl)
              have f8 : x 8 = (.bool B2 : Value) := hF 8 (by decide) (by kernel_rfl)
              simp only [acts, Act.put, List.getD_cons_zero, List.getD_cons_succ, List.setIfInBounds_toArray, List.set_cons_zero, List.set_cons_succ]
              go_simp
              refine hK.out _ _ (after_mk (.bool B2 : Value) ?_ (Below.refl _ _) rfl (fun h => absurd h (by decide)))
              simp only [acts, Act.put, List.getD_cons_zero, List.getD_cons_succ, List.setIfInBounds_toArray, List.set_cons_zero, List.set_cons_succ]
              try simp only [f3, f8]
            exact StepsF.nil
          · intro x wx hB hF hne fuel
            have q1 : Below W.heap.size W wx := below_then (Below.refl _ _).drew hB
            have v0 : x 0 = (.agg #[.int .i64 kd, .int .i64 rk] : Value) := hF 0 (by decide)
            have v1 : x 1 = (.bool true : Value) := hF 1 (by decide)
            have v2 : x 2 = (.bool false : Value) := hF 2 (by decide)
            have v3 : x 3 = (.bool false : Value) := hF 3 (by decide)
            have v4 : x 4 = (.slice (some ⟨b, off, none⟩) n cap : Value) := hF 4 (by decide)
            have v5 : x 5 = (.int .i64 k : Value) := hF 5 (by decide)
            have v6 : x 6 = (.slice (some ⟨b, off, none⟩) k cap : Value) := hF 6 (by decide)
            have v7 : x 7 = (.agg #[.int .i64 kd, .int .i64 rk] : Value) := hF 7 (by decide)
            have v8 : x 8 = (.bool B2 : Value) := hF 8 (by decide)
            have v9 : x 9 = (.bool B2 : Value) := hF 9 (by decide)
            clear hB hF hne
            simp only [acts, Act.put, List.getD_cons_zero, List.getD_cons_succ, List.setIfInBounds_toArray, List.set_cons_zero, List.set_cons_succ]
            rw [v0, v1, v2, v3, v4, v5, v6, v7, v8, v9]
            clear v0 v1 v2 v3 v4 v5 v6 v7 v8 v9
            refine wpAny_done (by kernel_rfl) ?_ _
            go_wp2
            go_meet
            case rel => exact ⟨rfl, q1⟩
      case rest =>
        obtain ⟨rfl, hX⟩ := hcut
        have hBX := below_then hBW hX
        cases hb : (!B1 || B2) with
        | true =>
          have e : V = false := by
            rw [← HR.out]
            revert hb
            cases B1 <;> cases B2 <;> simp
          have HE : Hid (V = false) := e
          clear e hb HR
          go_wp2
          go_ret
          exact ⟨by rw [HE.out]; rfl, hBX⟩
        | false =>
          have e : stepsFrom (xs.take (k + 1)) (xs.drop (k + 1)) = V := by
            rw [← HR.out]
            revert hb
            cases B1 <;> cases B2 <;> simp
          have HE : Hid (stepsFrom (xs.take (k + 1)) (xs.drop (k + 1)) = V) := e
          clear e hb HR
          go_wp2
          go_roundw
          case rel => exact ⟨k + 1, by omega, by go_num, HE.out, hBX⟩
          case measure => simp [intOf]; omega
    · have HE : Hid (V = true) := by
        show V = true
        rw [← hr, List.drop_eq_nil_of_le (by rw [HN.out]; omega)]
        rfl
      clear hr HV
      go_wp2
      go_ret
      exact ⟨by rw [HE.out]; rfl, hB⟩
end Go.Proofs.Ytamdmicdieeolaa
