/-
  The walk of TapeSums.
-/
import Derived.Test.YtibakfhalabdaaaTapeRunsWalk
import Derived.Test.YtibakfhalabdaaaTapeF
import Derived.Test.YtibakfhalabdaaaOrdG
namespace Go.Proofs.Ytibakfhalabdaaa
open Go.RowKit

theorem tapeRuns_k : ∀ (w : World) (R : Ending → World → Prop), (∀ w', Below w.heap.size w w' → R (.returned (.bool true)) w') → Calls Try.prog 3 #[] w R := fun w _ k =>
  (tapeRuns_any w).mono fun _ w' ⟨e2, b⟩ => e2 ▸ k w' b
/-- Three new variables, as they stand when all has come up. -/
structure New3 (N : Nat) (wx : World) (p q r : Value) (g h k : Nat) : Prop where
  p : p = .pointer (some ⟨g, 0, none⟩)
  q : q = .pointer (some ⟨h, 0, none⟩)
  r : r = .pointer (some ⟨k, 0, none⟩)
  ng : N ≤ g
  nh : N ≤ h
  nk : N ≤ k
  gh : g ≠ h
  gk : g ≠ k
  hk : h ≠ k
  bg : Blk wx g 26 TotT.zero.f
  bh : Blk wx h 26 TotT.zero.f
  bk : Blk wx k 26 TotT.zero.f
theorem new3_of {N : Nat} {wx : World} {p q r : Value} (n0 : NewF N p wx) (n1 : NewF N q wx) (n2 : NewF N r wx) (pq : p ≠ q) (pr : p ≠ r) (qr : q ≠ r) :
    ∃ m : Nat × Nat × Nat, New3 N wx p q r m.1 m.2.1 m.2.2 := by
  obtain ⟨g, rfl, hg, kg⟩ := n0
  obtain ⟨h, rfl, hh, kh⟩ := n1
  obtain ⟨k, rfl, hk, kk⟩ := n2
  exact ⟨⟨g, h, k⟩, rfl, rfl, rfl, hg, hh, hk, fun e => pq (congrArg (fun n : Nat => Value.pointer (some ⟨n, 0, none⟩)) e), fun e => pr (congrArg (fun n : Nat => Value.pointer (some ⟨n, 0, none⟩)) e), fun e => qr (congrArg (fun n : Nat => Value.pointer (some ⟨n, 0, none⟩)) e), kg, kh, kk⟩
/-- Sum, its outcome as a letter, with what follows. -/
theorem tsum_e {v : Value} {xs : List LineT} {X : TotT} {w : World} {R : Ending → World → Prop} (e : sumT xs = X) (h : Lies 7 LineT.f w v xs) (ha : ∀ x ∈ xs, x.Am) (hl : xs.length ≤ 1000) (k : ∀ w', Below w.heap.size w w' → R (.returned (.agg #[.int .i64 X.p, .int .i64 X.q, .int .i64 X.i, .int .i64 X.r, .int .i64 X.d])) w') : Calls Try.prog 7 #[v] w R :=
  (tsum_any v xs w h ha hl).mono fun e1 w' ⟨e2, b⟩ => by
    rw [e] at e2
    exact e2 ▸ k w' b
set_option maxRecDepth 1000000 in
set_option maxHeartbeats 4000000 in
theorem tapeSums_any (v0 : Value) (c0 : Int) (w : World) (w0 : TapeIn w v0) :
    Calls Try.prog 5 #[v0, .int .i64 c0] w fun e w' => e = .returned (.bool true) ∧ Below w.heap.size w w' := by
  obtain ⟨a0, a1, a2, a3, a4, a5, _, _, _, _, _, _, rfl, _⟩ := id w0
  have T0 : Hid (TapeIn w (.agg #[a0, a1, a2, a3, a4, a5])) := w0
  clear w0
  go_enter Try.func5, Try.ntmps5
  go_upto_region 2 with (go_at_call 10; refine (lines_any _ _ (T0.out.below (below_alloc (Below.refl _ _) _))).mono ?_; rintro e wl ⟨v, xs, rfl, hl, hr, ho, bn⟩)
  have bW : Below w.heap.size w wl := below_then (below_alloc (Below.refl _ _) _) bn
  have hA := rightFrom_am 0 xs hr
  have hlies : Lies 7 LineT.f wl v xs := own_lies LineT.len ho rfl
  have HO : Hid (∃ B, wl.ownsRow B 23 7 v xs.length (xs.flatMap LineT.f)) := ⟨_, ho⟩
  obtain ⟨a, cap, rfl, _, hcm, hz, _⟩ := id hlies
  have hlen := hlies.len
  obtain ⟨n, hn⟩ : ∃ n, xs.length = n := ⟨_, rfl⟩
  rw [hn] at hl hlen hlies HO ⊢
  unfold maxLen at hlen
  have HL : Hid (Lies 7 LineT.f wl (.slice a n cap) xs) := hlies
  have HN : Hid (xs.length = n) := hn
  obtain ⟨kn, hkn⟩ := Int.eq_ofNat_of_zero_le (Int.emod_nonneg c0 (b := (n : Int) + 1) (by omega))
  have hkl : kn ≤ n := by
    have := Int.emod_lt_of_pos c0 (b := (n : Int) + 1) (by omega)
    omega
  have E1 : Hid (c0 % ((n : Int) + 1) = (kn : Int)) := hkn
  have hm : n ≤ 9223372036854775807 := by omega
  clear hkn hr ho bn hlies hcm hz hlen
  go_upto_region 3 with (go_at_call 11; refine (win_to (by omega) (by omega) E1.out _).mono ?_; rintro e wq ⟨rfl, hq⟩; have hq := hq.symm; subst hq)
  obtain ⟨X, eX⟩ : ∃ X, sumT xs = X := ⟨_, rfl⟩
  obtain ⟨Y, eY⟩ : ∃ X, sumT (xs.take kn) = X := ⟨_, rfl⟩
  obtain ⟨Z, eZ⟩ : ∃ X, sumT (xs.drop kn) = X := ⟨_, rfl⟩
  have EX : Hid (sumT xs = X) := eX
  have EY : Hid (sumT (xs.take kn) = Y) := eY
  have EZ : Hid (sumT (xs.drop kn) = Z) := eZ
  have HA : Hid ((∀ x ∈ xs, x.Am) ∧ xs.length ≤ 1000) := ⟨hA, by omega⟩
  have HA2 : Hid ((∀ x ∈ xs.take kn, x.Am) ∧ (xs.take kn).length ≤ 1000) := ⟨fun x hx => hA x (List.mem_of_mem_take hx), by rw [List.length_take]; omega⟩
  have HA3 : Hid ((∀ x ∈ xs.drop kn, x.Am) ∧ (xs.drop kn).length ≤ 1000) := ⟨fun x hx => hA x (List.mem_of_mem_drop hx), by rw [List.length_drop]; omega⟩
  clear eX eY eZ hA hn
  go_cut [7, 8, 9] (fun p q r wx => ∃ (g h k : Nat), p = .pointer (some ⟨g, 0, none⟩) ∧ q = .pointer (some ⟨h, 0, none⟩) ∧ r = .pointer (some ⟨k, 0, none⟩) ∧ Below wl.heap.size wl wx ∧ Blk wx g 26 X.f ∧ Blk wx h 26 Y.f ∧ Blk wx k 26 Z.f)
  case first =>
    obtain ⟨_, ho⟩ := HO.out
    rcases ho.2 with ⟨hv, h0⟩ | ⟨g0, cp, cur, hv, _, _, hcp, hcm, _, _⟩
    · injection hv with e1 e2 e3
      subst e1 e2 e3
      obtain rfl : kn = 0 := by omega
      have HT : Hid (Lies 7 LineT.f wl (.slice none 0 0) (xs.take 0)) := Lies.nil _ _ _
      have HD : Hid (Lies 7 LineT.f wl (.slice none 0 0) (xs.drop 0)) := HL.out
      clear ho h0
      rw [show ((0 : Nat) : Int) = 0 from rfl]
      refine wp_region_ps [21, 22, 23, 24, 25, 26, 27, 28, 29, 30, 7, 8, 9] [fun v _ => v = (.slice none 0 0 : Value), fun v _ => v = (.agg #[.int .i64 X.p, .int .i64 X.q, .int .i64 X.i, .int .i64 X.r, .int .i64 X.d]), fun v _ => v = (.slice none 0 0 : Value), fun v _ => v = (.int .i64 0 : Value), fun v _ => v = (.slice none 0 0 : Value), fun v _ => v = (.agg #[.int .i64 Y.p, .int .i64 Y.q, .int .i64 Y.i, .int .i64 Y.r, .int .i64 Y.d]), fun v _ => v = (.slice none 0 0 : Value), fun v _ => v = (.int .i64 0 : Value), fun v _ => v = (.slice none 0 0 : Value), fun v _ => v = (.agg #[.int .i64 Z.p, .int .i64 Z.q, .int .i64 Z.i, .int .i64 Z.r, .int .i64 Z.d]), NewF wl.heap.size, NewF wl.heap.size, NewF wl.heap.size] [10, 11, 12] [0, 1, 2, 3, 4, 5, 6, 7, 8, 9, 10, 11, 12] #[true, true, true, true, true, true, true, true, true, true, true, true, true, false, false, false] 3 (by kernel_rfl) (by kernel_rfl) (by kernel_rfl) (by kernel_rfl) ?_ ?_ ?_
      · intro p hp
        simp only [List.mem_cons, List.not_mem_nil, or_false] at hp
        rcases hp with rfl | rfl | rfl | rfl | rfl | rfl | rfl | rfl | rfl | rfl | rfl | rfl | rfl <;> first | exact newF_bears _ | exact bears_is _
      · have bD : Below wl.heap.size wl wl.drew := (Below.refl _ _).drew
        refine StepsF.cons rfl rfl (fun x wx hB hF K hK => ?_) ?_
        · (simp only [acts, Act.put, List.getD_cons_zero, List.getD_cons_succ, List.setIfInBounds_toArray, List.set_cons_zero, List.set_cons_succ]; go_simp; refine hK.out _ _ (after_mk _ ?_ (Below.refl _ _) rfl (fun h => absurd h (by decide))); simp only [acts, Act.put, List.getD_cons_zero, List.getD_cons_succ, List.setIfInBounds_toArray, List.set_cons_zero, List.set_cons_succ])
        refine StepsF.cons rfl rfl (fun x wx hB hF K hK => ?_) ?_
        · have q1 : Lies 7 LineT.f wx (x 0) xs := by
            rw [show x 0 = _ from hF 0 (by decide) (by kernel_rfl)]
            exact HL.out.below (below_then bD hB)
          simp only [acts, Act.put, List.getD_cons_zero, List.getD_cons_succ, List.setIfInBounds_toArray, List.set_cons_zero, List.set_cons_succ]
          go_simp
          refine tsum_e EX.out q1 HA.out.1 HA.out.2 (fun wy hb => ?_)
          (refine hK.out _ _ (after_mk _ ?_ hb rfl (fun h => absurd h (by decide))); simp only [acts, Act.put, List.getD_cons_zero, List.getD_cons_succ, List.setIfInBounds_toArray, List.set_cons_zero, List.set_cons_succ])
        refine StepsF.cons rfl rfl (fun x wx hB hF K hK => ?_) ?_
        · (simp only [acts, Act.put, List.getD_cons_zero, List.getD_cons_succ, List.setIfInBounds_toArray, List.set_cons_zero, List.set_cons_succ]; go_simp; refine hK.out _ _ (after_mk _ ?_ (Below.refl _ _) rfl (fun h => absurd h (by decide))); simp only [acts, Act.put, List.getD_cons_zero, List.getD_cons_succ, List.setIfInBounds_toArray, List.set_cons_zero, List.set_cons_succ])
        refine StepsF.cons rfl rfl (fun x wx hB hF K hK => ?_) ?_
        · (simp only [acts, Act.put, List.getD_cons_zero, List.getD_cons_succ, List.setIfInBounds_toArray, List.set_cons_zero, List.set_cons_succ]; go_simp; refine hK.out _ _ (after_mk _ ?_ (Below.refl _ _) rfl (fun h => absurd h (by decide))); simp only [acts, Act.put, List.getD_cons_zero, List.getD_cons_succ, List.setIfInBounds_toArray, List.set_cons_zero, List.set_cons_succ])
        refine StepsF.cons rfl rfl (fun x wx hB hF K hK => ?_) ?_
        · have f1 : x 2 = .slice none 0 0 := hF 2 (by decide) (by kernel_rfl)
          have f2 : x 3 = .int .i64 0 := hF 3 (by decide) (by kernel_rfl)
          simp only [acts, Act.put, List.getD_cons_zero, List.getD_cons_succ, List.setIfInBounds_toArray, List.set_cons_zero, List.set_cons_succ]
          go_simp
          refine hK.out _ _ (after_mk (.slice none 0 0) ?_ (Below.refl _ _) rfl (fun h => absurd h (by decide)))
          simp only [acts, Act.put, List.getD_cons_zero, List.getD_cons_succ, List.setIfInBounds_toArray, List.set_cons_zero, List.set_cons_succ]
          try simp only [f1, f2]
        refine StepsF.cons rfl rfl (fun x wx hB hF K hK => ?_) ?_
        · have q1 : Lies 7 LineT.f wx (x 4) (xs.take 0) := by
            rw [show x 4 = _ from hF 4 (by decide) (by kernel_rfl)]
            exact HT.out.below (below_then bD hB)
          simp only [acts, Act.put, List.getD_cons_zero, List.getD_cons_succ, List.setIfInBounds_toArray, List.set_cons_zero, List.set_cons_succ]
          go_simp
          refine tsum_e EY.out q1 HA2.out.1 HA2.out.2 (fun wy hb => ?_)
          (refine hK.out _ _ (after_mk _ ?_ hb rfl (fun h => absurd h (by decide))); simp only [acts, Act.put, List.getD_cons_zero, List.getD_cons_succ, List.setIfInBounds_toArray, List.set_cons_zero, List.set_cons_succ])
        refine StepsF.cons rfl rfl (fun x wx hB hF K hK => ?_) ?_
        · (simp only [acts, Act.put, List.getD_cons_zero, List.getD_cons_succ, List.setIfInBounds_toArray, List.set_cons_zero, List.set_cons_succ]; go_simp; refine hK.out _ _ (after_mk _ ?_ (Below.refl _ _) rfl (fun h => absurd h (by decide))); simp only [acts, Act.put, List.getD_cons_zero, List.getD_cons_succ, List.setIfInBounds_toArray, List.set_cons_zero, List.set_cons_succ])
        refine StepsF.cons rfl rfl (fun x wx hB hF K hK => ?_) ?_
        · (simp only [acts, Act.put, List.getD_cons_zero, List.getD_cons_succ, List.setIfInBounds_toArray, List.set_cons_zero, List.set_cons_succ]; go_simp; refine hK.out _ _ (after_mk _ ?_ (Below.refl _ _) rfl (fun h => absurd h (by decide))); simp only [acts, Act.put, List.getD_cons_zero, List.getD_cons_succ, List.setIfInBounds_toArray, List.set_cons_zero, List.set_cons_succ])
        refine StepsF.cons rfl rfl (fun x wx hB hF K hK => ?_) ?_
        · have f1 : x 6 = .slice none 0 0 := hF 6 (by decide) (by kernel_rfl)
          have f2 : x 7 = .int .i64 0 := hF 7 (by decide) (by kernel_rfl)
          simp only [acts, Act.put, List.getD_cons_zero, List.getD_cons_succ, List.setIfInBounds_toArray, List.set_cons_zero, List.set_cons_succ]
          go_simp
          refine hK.out _ _ (after_mk (.slice none 0 0) ?_ (Below.refl _ _) rfl (fun h => absurd h (by decide)))
          simp only [acts, Act.put, List.getD_cons_zero, List.getD_cons_succ, List.setIfInBounds_toArray, List.set_cons_zero, List.set_cons_succ]
          try simp only [f1, f2]
        refine StepsF.cons rfl rfl (fun x wx hB hF K hK => ?_) ?_
        · have q1 : Lies 7 LineT.f wx (x 8) (xs.drop 0) := by
            rw [show x 8 = _ from hF 8 (by decide) (by kernel_rfl)]
            exact HD.out.below (below_then bD hB)
          simp only [acts, Act.put, List.getD_cons_zero, List.getD_cons_succ, List.setIfInBounds_toArray, List.set_cons_zero, List.set_cons_succ]
          go_simp
          refine tsum_e EZ.out q1 HA3.out.1 HA3.out.2 (fun wy hb => ?_)
          (refine hK.out _ _ (after_mk _ ?_ hb rfl (fun h => absurd h (by decide))); simp only [acts, Act.put, List.getD_cons_zero, List.getD_cons_succ, List.setIfInBounds_toArray, List.set_cons_zero, List.set_cons_succ])
        refine StepsF.cons rfl rfl (fun x wx hB hF K hK => ?_) ?_
        · (have q1 : Below wl.heap.size wl wx := (below_then bD hB); simp only [acts, Act.put, List.getD_cons_zero, List.getD_cons_succ, List.setIfInBounds_toArray, List.set_cons_zero, List.set_cons_succ]; go_simp; refine hK.out _ _ (after_mk _ ?_ (below_alloc (Below.refl _ _) _) (⟨_, rfl, q1.size, Blk.fresh _ _ TotT.zero.f⟩ : NewF wl.heap.size _ _) (fun _ k hk hf => ?_)); (· simp only [acts, Act.put, List.getD_cons_zero, List.getD_cons_succ, List.setIfInBounds_toArray, List.set_cons_zero, List.set_cons_succ]); (· simp only [List.mem_cons, List.not_mem_nil, or_false] at hk; rcases hk with rfl | rfl | rfl <;> exact newF_ne (N := wl.heap.size) hf))
        refine StepsF.cons rfl rfl (fun x wx hB hF K hK => ?_) ?_
        · (have q1 : Below wl.heap.size wl wx := (below_then bD hB); simp only [acts, Act.put, List.getD_cons_zero, List.getD_cons_succ, List.setIfInBounds_toArray, List.set_cons_zero, List.set_cons_succ]; go_simp; refine hK.out _ _ (after_mk _ ?_ (below_alloc (Below.refl _ _) _) (⟨_, rfl, q1.size, Blk.fresh _ _ TotT.zero.f⟩ : NewF wl.heap.size _ _) (fun _ k hk hf => ?_)); (· simp only [acts, Act.put, List.getD_cons_zero, List.getD_cons_succ, List.setIfInBounds_toArray, List.set_cons_zero, List.set_cons_succ]); (· simp only [List.mem_cons, List.not_mem_nil, or_false] at hk; rcases hk with rfl | rfl | rfl <;> exact newF_ne (N := wl.heap.size) hf))
        refine StepsF.cons rfl rfl (fun x wx hB hF K hK => ?_) ?_
        · (have q1 : Below wl.heap.size wl wx := (below_then bD hB); simp only [acts, Act.put, List.getD_cons_zero, List.getD_cons_succ, List.setIfInBounds_toArray, List.set_cons_zero, List.set_cons_succ]; go_simp; refine hK.out _ _ (after_mk _ ?_ (below_alloc (Below.refl _ _) _) (⟨_, rfl, q1.size, Blk.fresh _ _ TotT.zero.f⟩ : NewF wl.heap.size _ _) (fun _ k hk hf => ?_)); (· simp only [acts, Act.put, List.getD_cons_zero, List.getD_cons_succ, List.setIfInBounds_toArray, List.set_cons_zero, List.set_cons_succ]); (· simp only [List.mem_cons, List.not_mem_nil, or_false] at hk; rcases hk with rfl | rfl | rfl <;> exact newF_ne (N := wl.heap.size) hf))
        exact StepsF.nil
      · intro x wx hB hF hne fuel
        have q1 : Below wl.heap.size wl wx := below_then (Below.refl _ _).drew hB
        have v1 : x 1 = (.agg #[.int .i64 X.p, .int .i64 X.q, .int .i64 X.i, .int .i64 X.r, .int .i64 X.d]) := hF 1 (by decide)
        have v5 : x 5 = (.agg #[.int .i64 Y.p, .int .i64 Y.q, .int .i64 Y.i, .int .i64 Y.r, .int .i64 Y.d]) := hF 5 (by decide)
        have v9 : x 9 = (.agg #[.int .i64 Z.p, .int .i64 Z.q, .int .i64 Z.i, .int .i64 Z.r, .int .i64 Z.d]) := hF 9 (by decide)
        have key := new3_of (N := wl.heap.size) (hF 10 (by decide)) (hF 11 (by decide)) (hF 12 (by decide)) (hne 10 (by decide) 11 (by decide) (by decide)) (hne 10 (by decide) 12 (by decide) (by decide)) (hne 11 (by decide) 12 (by decide) (by decide))
        clear hB hF hne
        refine Exists.elim key ?_
        intro m hE
        have kg := hE.bg
        have kh := hE.bh
        have kk := hE.bk
        simp only [acts, Act.put, List.getD_cons_zero, List.getD_cons_succ, List.setIfInBounds_toArray, List.set_cons_zero, List.set_cons_succ]
        rw [v1, v5, v9, hE.p, hE.q, hE.r]
        have HE : Hid (New3 wl.heap.size wx (x 10) (x 11) (x 12) m.1 m.2.1 m.2.2) := hE
        clear hE key v1 v5 v9
        generalize m.1 = g at *
        generalize m.2.1 = h at *
        generalize m.2.2 = k at *
        (have f0 := kg.frozen 0; have f1 := kg.frozen 1; have f2 := kg.frozen 2; have f3 := kg.frozen 3; have f4 := kg.frozen 4; have c0 := kg.cell 0 _ rfl; have c1 := kg.cell 1 _ rfl; have c2 := kg.cell 2 _ rfl; have c3 := kg.cell 3 _ rfl; have c4 := kg.cell 4 _ rfl; refine wpAny_ready (rs := [13]) (by kernel_rfl) (by simp) ?_; refine AllReady.cons rfl (fun K hK => ?_) AllReady.nil; go_simp; refine hK _ _ ?_; clear hK K f0 f1 f2 f3 f4 c0 c1 c2 c3 c4)
        refine wpAny_letter (fun wz => Below wl.heap.size wl wz ∧ Blk wz g 26 X.f ∧ Blk wz h 26 TotT.zero.f ∧ Blk wz k 26 TotT.zero.f) ⟨(((((q1.setCell HE.out.ng _).setCell HE.out.ng _).setCell HE.out.ng _).setCell HE.out.ng _).setCell HE.out.ng _), (((((kg.set 0 _).set 1 _).set 2 _).set 3 _).set 4 _), (((((kh.set_other _ 0 HE.out.gh.symm _).set_other _ 1 HE.out.gh.symm _).set_other _ 2 HE.out.gh.symm _).set_other _ 3 HE.out.gh.symm _).set_other _ 4 HE.out.gh.symm _), (((((kk.set_other _ 0 HE.out.gk.symm _).set_other _ 1 HE.out.gk.symm _).set_other _ 2 HE.out.gk.symm _).set_other _ 3 HE.out.gk.symm _).set_other _ 4 HE.out.gk.symm _)⟩ ?_
        clear q1 kg kh kk
        intro wz hz
        have q1 := hz.1
        have kg := hz.2.1
        have kh := hz.2.2.1
        have kk := hz.2.2.2
        clear hz
        (have f0 := kh.frozen 0; have f1 := kh.frozen 1; have f2 := kh.frozen 2; have f3 := kh.frozen 3; have f4 := kh.frozen 4; have c0 := kh.cell 0 _ rfl; have c1 := kh.cell 1 _ rfl; have c2 := kh.cell 2 _ rfl; have c3 := kh.cell 3 _ rfl; have c4 := kh.cell 4 _ rfl; refine wpAny_ready (rs := [14]) (by kernel_rfl) (by simp) ?_; refine AllReady.cons rfl (fun K hK => ?_) AllReady.nil; go_simp; refine hK _ _ ?_; clear hK K f0 f1 f2 f3 f4 c0 c1 c2 c3 c4)
        refine wpAny_letter (fun wz => Below wl.heap.size wl wz ∧ Blk wz g 26 X.f ∧ Blk wz h 26 Y.f ∧ Blk wz k 26 TotT.zero.f) ⟨(((((q1.setCell HE.out.nh _).setCell HE.out.nh _).setCell HE.out.nh _).setCell HE.out.nh _).setCell HE.out.nh _), (((((kg.set_other _ 0 HE.out.gh _).set_other _ 1 HE.out.gh _).set_other _ 2 HE.out.gh _).set_other _ 3 HE.out.gh _).set_other _ 4 HE.out.gh _), (((((kh.set 0 _).set 1 _).set 2 _).set 3 _).set 4 _), (((((kk.set_other _ 0 HE.out.hk.symm _).set_other _ 1 HE.out.hk.symm _).set_other _ 2 HE.out.hk.symm _).set_other _ 3 HE.out.hk.symm _).set_other _ 4 HE.out.hk.symm _)⟩ ?_
        clear q1 kg kh kk
        clear wz
        intro wz hz
        have q1 := hz.1
        have kg := hz.2.1
        have kh := hz.2.2.1
        have kk := hz.2.2.2
        clear hz
        (have f0 := kk.frozen 0; have f1 := kk.frozen 1; have f2 := kk.frozen 2; have f3 := kk.frozen 3; have f4 := kk.frozen 4; have c0 := kk.cell 0 _ rfl; have c1 := kk.cell 1 _ rfl; have c2 := kk.cell 2 _ rfl; have c3 := kk.cell 3 _ rfl; have c4 := kk.cell 4 _ rfl; refine wpAny_ready (rs := [15]) (by kernel_rfl) (by simp) ?_; refine AllReady.cons rfl (fun K hK => ?_) AllReady.nil; go_simp; refine hK _ _ ?_; clear hK K f0 f1 f2 f3 f4 c0 c1 c2 c3 c4)
        refine wpAny_letter (fun wz => Below wl.heap.size wl wz ∧ Blk wz g 26 X.f ∧ Blk wz h 26 Y.f ∧ Blk wz k 26 Z.f) ⟨(((((q1.setCell HE.out.nk _).setCell HE.out.nk _).setCell HE.out.nk _).setCell HE.out.nk _).setCell HE.out.nk _), (((((kg.set_other _ 0 HE.out.gk _).set_other _ 1 HE.out.gk _).set_other _ 2 HE.out.gk _).set_other _ 3 HE.out.gk _).set_other _ 4 HE.out.gk _), (((((kh.set_other _ 0 HE.out.hk _).set_other _ 1 HE.out.hk _).set_other _ 2 HE.out.hk _).set_other _ 3 HE.out.hk _).set_other _ 4 HE.out.hk _), (((((kk.set 0 _).set 1 _).set 2 _).set 3 _).set 4 _)⟩ ?_
        clear q1 kg kh kk
        clear wz
        intro wz hz
        refine wpAny_done (by kernel_rfl) ?_ _
        go_wp2_with fail
        go_meet
        case rel => exact ⟨g, h, k, rfl, rfl, rfl, hz.1, hz.2.1, hz.2.2.1, hz.2.2.2⟩
    · injection hv with e1 e2 e3
      subst e1
      subst e3
      unfold maxLen at hcm
      have k1 : (0 : Int) ≤ (kn : Int) := by omega
      have k2 : (kn : Int) ≤ (cap : Int) := by omega
      have k3 : (kn : Int) ≤ (n : Int) := by omega
      have k4 : (n : Int) ≤ (cap : Int) := by omega
      obtain ⟨A, hA⟩ : ∃ A, (if cap = kn then some (⟨g0, 0, none⟩ : Addr) else some ⟨g0, kn * 7, none⟩) = A := ⟨_, rfl⟩
      have HT : Hid (Lies 7 LineT.f wl (.slice (some ⟨g0, 0, none⟩) kn cap) (xs.take kn)) := HL.out.take kn hkl
      have HD : Hid (Lies 7 LineT.f wl (.slice A (n - kn) (cap - kn)) (xs.drop kn)) := HL.out.drop kn hkl A (by rw [← hA, Nat.zero_add])
      clear ho
      refine wp_region_ps [21, 22, 23, 24, 25, 26, 27, 28, 29, 30, 7, 8, 9] [fun v _ => v = (.slice (some ⟨g0, 0, none⟩) n cap : Value), fun v _ => v = (.agg #[.int .i64 X.p, .int .i64 X.q, .int .i64 X.i, .int .i64 X.r, .int .i64 X.d]), fun v _ => v = (.slice (some ⟨g0, 0, none⟩) n cap : Value), fun v _ => v = (.int .i64 (kn : Int) : Value), fun v _ => v = (.slice (some ⟨g0, 0, none⟩) kn cap : Value), fun v _ => v = (.agg #[.int .i64 Y.p, .int .i64 Y.q, .int .i64 Y.i, .int .i64 Y.r, .int .i64 Y.d]), fun v _ => v = (.slice (some ⟨g0, 0, none⟩) n cap : Value), fun v _ => v = (.int .i64 (kn : Int) : Value), fun v _ => v = (.slice A (n - kn) (cap - kn) : Value), fun v _ => v = (.agg #[.int .i64 Z.p, .int .i64 Z.q, .int .i64 Z.i, .int .i64 Z.r, .int .i64 Z.d]), NewF wl.heap.size, NewF wl.heap.size, NewF wl.heap.size] [10, 11, 12] [0, 1, 2, 3, 4, 5, 6, 7, 8, 9, 10, 11, 12] #[true, true, true, true, true, true, true, true, true, true, true, true, true, false, false, false] 3 (by kernel_rfl) (by kernel_rfl) (by kernel_rfl) (by kernel_rfl) ?_ ?_ ?_
      · intro p hp
        simp only [List.mem_cons, List.not_mem_nil, or_false] at hp
        rcases hp with rfl | rfl | rfl | rfl | rfl | rfl | rfl | rfl | rfl | rfl | rfl | rfl | rfl <;> first | exact newF_bears _ | exact bears_is _
      · have bD : Below wl.heap.size wl wl.drew := (Below.refl _ _).drew
        refine StepsF.cons rfl rfl (fun x wx hB hF K hK => ?_) ?_
        · (simp only [acts, Act.put, List.getD_cons_zero, List.getD_cons_succ, List.setIfInBounds_toArray, List.set_cons_zero, List.set_cons_succ]; go_simp; refine hK.out _ _ (after_mk _ ?_ (Below.refl _ _) rfl (fun h => absurd h (by decide))); simp only [acts, Act.put, List.getD_cons_zero, List.getD_cons_succ, List.setIfInBounds_toArray, List.set_cons_zero, List.set_cons_succ])
        refine StepsF.cons rfl rfl (fun x wx hB hF K hK => ?_) ?_
        · have q1 : Lies 7 LineT.f wx (x 0) xs := by
            rw [show x 0 = _ from hF 0 (by decide) (by kernel_rfl)]
            exact HL.out.below (below_then bD hB)
          simp only [acts, Act.put, List.getD_cons_zero, List.getD_cons_succ, List.setIfInBounds_toArray, List.set_cons_zero, List.set_cons_succ]
          go_simp
          refine tsum_e EX.out q1 HA.out.1 HA.out.2 (fun wy hb => ?_)
          (refine hK.out _ _ (after_mk _ ?_ hb rfl (fun h => absurd h (by decide))); simp only [acts, Act.put, List.getD_cons_zero, List.getD_cons_succ, List.setIfInBounds_toArray, List.set_cons_zero, List.set_cons_succ])
        refine StepsF.cons rfl rfl (fun x wx hB hF K hK => ?_) ?_
        · (simp only [acts, Act.put, List.getD_cons_zero, List.getD_cons_succ, List.setIfInBounds_toArray, List.set_cons_zero, List.set_cons_succ]; go_simp; refine hK.out _ _ (after_mk _ ?_ (Below.refl _ _) rfl (fun h => absurd h (by decide))); simp only [acts, Act.put, List.getD_cons_zero, List.getD_cons_succ, List.setIfInBounds_toArray, List.set_cons_zero, List.set_cons_succ])
        refine StepsF.cons rfl rfl (fun x wx hB hF K hK => ?_) ?_
        · (simp only [acts, Act.put, List.getD_cons_zero, List.getD_cons_succ, List.setIfInBounds_toArray, List.set_cons_zero, List.set_cons_succ]; go_simp; refine hK.out _ _ (after_mk _ ?_ (Below.refl _ _) rfl (fun h => absurd h (by decide))); simp only [acts, Act.put, List.getD_cons_zero, List.getD_cons_succ, List.setIfInBounds_toArray, List.set_cons_zero, List.set_cons_succ])
        refine StepsF.cons rfl rfl (fun x wx hB hF K hK => ?_) ?_
        · have f1 : x 2 = .slice (some ⟨g0, 0, none⟩) n cap := hF 2 (by decide) (by kernel_rfl)
          have f2 : x 3 = .int .i64 (kn : Int) := hF 3 (by decide) (by kernel_rfl)
          simp only [acts, Act.put, List.getD_cons_zero, List.getD_cons_succ, List.setIfInBounds_toArray, List.set_cons_zero, List.set_cons_succ]
          go_simp
          refine hK.out _ _ (after_mk (.slice (some ⟨g0, 0, none⟩) kn cap) ?_ (Below.refl _ _) rfl (fun h => absurd h (by decide)))
          simp only [acts, Act.put, List.getD_cons_zero, List.getD_cons_succ, List.setIfInBounds_toArray, List.set_cons_zero, List.set_cons_succ]
          try simp only [f1, f2]
        refine StepsF.cons rfl rfl (fun x wx hB hF K hK => ?_) ?_
        · have q1 : Lies 7 LineT.f wx (x 4) (xs.take kn) := by
            rw [show x 4 = _ from hF 4 (by decide) (by kernel_rfl)]
            exact HT.out.below (below_then bD hB)
          simp only [acts, Act.put, List.getD_cons_zero, List.getD_cons_succ, List.setIfInBounds_toArray, List.set_cons_zero, List.set_cons_succ]
          go_simp
          refine tsum_e EY.out q1 HA2.out.1 HA2.out.2 (fun wy hb => ?_)
          (refine hK.out _ _ (after_mk _ ?_ hb rfl (fun h => absurd h (by decide))); simp only [acts, Act.put, List.getD_cons_zero, List.getD_cons_succ, List.setIfInBounds_toArray, List.set_cons_zero, List.set_cons_succ])
        refine StepsF.cons rfl rfl (fun x wx hB hF K hK => ?_) ?_
        · (simp only [acts, Act.put, List.getD_cons_zero, List.getD_cons_succ, List.setIfInBounds_toArray, List.set_cons_zero, List.set_cons_succ]; go_simp; refine hK.out _ _ (after_mk _ ?_ (Below.refl _ _) rfl (fun h => absurd h (by decide))); simp only [acts, Act.put, List.getD_cons_zero, List.getD_cons_succ, List.setIfInBounds_toArray, List.set_cons_zero, List.set_cons_succ])
        refine StepsF.cons rfl rfl (fun x wx hB hF K hK => ?_) ?_
        · (simp only [acts, Act.put, List.getD_cons_zero, List.getD_cons_succ, List.setIfInBounds_toArray, List.set_cons_zero, List.set_cons_succ]; go_simp; refine hK.out _ _ (after_mk _ ?_ (Below.refl _ _) rfl (fun h => absurd h (by decide))); simp only [acts, Act.put, List.getD_cons_zero, List.getD_cons_succ, List.setIfInBounds_toArray, List.set_cons_zero, List.set_cons_succ])
        refine StepsF.cons rfl rfl (fun x wx hB hF K hK => ?_) ?_
        · have f1 : x 6 = .slice (some ⟨g0, 0, none⟩) n cap := hF 6 (by decide) (by kernel_rfl)
          have f2 : x 7 = .int .i64 (kn : Int) := hF 7 (by decide) (by kernel_rfl)
          simp only [acts, Act.put, List.getD_cons_zero, List.getD_cons_succ, List.setIfInBounds_toArray, List.set_cons_zero, List.set_cons_succ]
          go_simp
          refine hK.out _ _ (after_mk (.slice A (n - kn) (cap - kn)) ?_ (Below.refl _ _) rfl (fun h => absurd h (by decide)))
          simp only [acts, Act.put, List.getD_cons_zero, List.getD_cons_succ, List.setIfInBounds_toArray, List.set_cons_zero, List.set_cons_succ]
          try simp only [f1, f2]
        refine StepsF.cons rfl rfl (fun x wx hB hF K hK => ?_) ?_
        · have q1 : Lies 7 LineT.f wx (x 8) (xs.drop kn) := by
            rw [show x 8 = _ from hF 8 (by decide) (by kernel_rfl)]
            exact HD.out.below (below_then bD hB)
          simp only [acts, Act.put, List.getD_cons_zero, List.getD_cons_succ, List.setIfInBounds_toArray, List.set_cons_zero, List.set_cons_succ]
          go_simp
          refine tsum_e EZ.out q1 HA3.out.1 HA3.out.2 (fun wy hb => ?_)
          (refine hK.out _ _ (after_mk _ ?_ hb rfl (fun h => absurd h (by decide))); simp only [acts, Act.put, List.getD_cons_zero, List.getD_cons_succ, List.setIfInBounds_toArray, List.set_cons_zero, List.set_cons_succ])
        refine StepsF.cons rfl rfl (fun x wx hB hF K hK => ?_) ?_
        · (have q1 : Below wl.heap.size wl wx := (below_then bD hB); simp only [acts, Act.put, List.getD_cons_zero, List.getD_cons_succ, List.setIfInBounds_toArray, List.set_cons_zero, List.set_cons_succ]; go_simp; refine hK.out _ _ (after_mk _ ?_ (below_alloc (Below.refl _ _) _) (⟨_, rfl, q1.size, Blk.fresh _ _ TotT.zero.f⟩ : NewF wl.heap.size _ _) (fun _ k hk hf => ?_)); (· simp only [acts, Act.put, List.getD_cons_zero, List.getD_cons_succ, List.setIfInBounds_toArray, List.set_cons_zero, List.set_cons_succ]); (· simp only [List.mem_cons, List.not_mem_nil, or_false] at hk; rcases hk with rfl | rfl | rfl <;> exact newF_ne (N := wl.heap.size) hf))
        refine StepsF.cons rfl rfl (fun x wx hB hF K hK => ?_) ?_
        · (have q1 : Below wl.heap.size wl wx := (below_then bD hB); simp only [acts, Act.put, List.getD_cons_zero, List.getD_cons_succ, List.setIfInBounds_toArray, List.set_cons_zero, List.set_cons_succ]; go_simp; refine hK.out _ _ (after_mk _ ?_ (below_alloc (Below.refl _ _) _) (⟨_, rfl, q1.size, Blk.fresh _ _ TotT.zero.f⟩ : NewF wl.heap.size _ _) (fun _ k hk hf => ?_)); (· simp only [acts, Act.put, List.getD_cons_zero, List.getD_cons_succ, List.setIfInBounds_toArray, List.set_cons_zero, List.set_cons_succ]); (· simp only [List.mem_cons, List.not_mem_nil, or_false] at hk; rcases hk with rfl | rfl | rfl <;> exact newF_ne (N := wl.heap.size) hf))
        refine StepsF.cons rfl rfl (fun x wx hB hF K hK => ?_) ?_
        · (have q1 : Below wl.heap.size wl wx := (below_then bD hB); simp only [acts, Act.put, List.getD_cons_zero, List.getD_cons_succ, List.setIfInBounds_toArray, List.set_cons_zero, List.set_cons_succ]; go_simp; refine hK.out _ _ (after_mk _ ?_ (below_alloc (Below.refl _ _) _) (⟨_, rfl, q1.size, Blk.fresh _ _ TotT.zero.f⟩ : NewF wl.heap.size _ _) (fun _ k hk hf => ?_)); (· simp only [acts, Act.put, List.getD_cons_zero, List.getD_cons_succ, List.setIfInBounds_toArray, List.set_cons_zero, List.set_cons_succ]); (· simp only [List.mem_cons, List.not_mem_nil, or_false] at hk; rcases hk with rfl | rfl | rfl <;> exact newF_ne (N := wl.heap.size) hf))
        exact StepsF.nil
      · intro x wx hB hF hne fuel
        have q1 : Below wl.heap.size wl wx := below_then (Below.refl _ _).drew hB
        have v1 : x 1 = (.agg #[.int .i64 X.p, .int .i64 X.q, .int .i64 X.i, .int .i64 X.r, .int .i64 X.d]) := hF 1 (by decide)
        have v5 : x 5 = (.agg #[.int .i64 Y.p, .int .i64 Y.q, .int .i64 Y.i, .int .i64 Y.r, .int .i64 Y.d]) := hF 5 (by decide)
        have v9 : x 9 = (.agg #[.int .i64 Z.p, .int .i64 Z.q, .int .i64 Z.i, .int .i64 Z.r, .int .i64 Z.d]) := hF 9 (by decide)
        have key := new3_of (N := wl.heap.size) (hF 10 (by decide)) (hF 11 (by decide)) (hF 12 (by decide)) (hne 10 (by decide) 11 (by decide) (by decide)) (hne 10 (by decide) 12 (by decide) (by decide)) (hne 11 (by decide) 12 (by decide) (by decide))
        clear hB hF hne
        refine Exists.elim key ?_
        intro m hE
        have kg := hE.bg
        have kh := hE.bh
        have kk := hE.bk
        simp only [acts, Act.put, List.getD_cons_zero, List.getD_cons_succ, List.setIfInBounds_toArray, List.set_cons_zero, List.set_cons_succ]
        rw [v1, v5, v9, hE.p, hE.q, hE.r]
        have HE : Hid (New3 wl.heap.size wx (x 10) (x 11) (x 12) m.1 m.2.1 m.2.2) := hE
        clear hE key v1 v5 v9
        generalize m.1 = g at *
        generalize m.2.1 = h at *
        generalize m.2.2 = k at *
        (have f0 := kg.frozen 0; have f1 := kg.frozen 1; have f2 := kg.frozen 2; have f3 := kg.frozen 3; have f4 := kg.frozen 4; have c0 := kg.cell 0 _ rfl; have c1 := kg.cell 1 _ rfl; have c2 := kg.cell 2 _ rfl; have c3 := kg.cell 3 _ rfl; have c4 := kg.cell 4 _ rfl; refine wpAny_ready (rs := [13]) (by kernel_rfl) (by simp) ?_; refine AllReady.cons rfl (fun K hK => ?_) AllReady.nil; go_simp; refine hK _ _ ?_; clear hK K f0 f1 f2 f3 f4 c0 c1 c2 c3 c4)
        refine wpAny_letter (fun wz => Below wl.heap.size wl wz ∧ Blk wz g 26 X.f ∧ Blk wz h 26 TotT.zero.f ∧ Blk wz k 26 TotT.zero.f) ⟨(((((q1.setCell HE.out.ng _).setCell HE.out.ng _).setCell HE.out.ng _).setCell HE.out.ng _).setCell HE.out.ng _), (((((kg.set 0 _).set 1 _).set 2 _).set 3 _).set 4 _), (((((kh.set_other _ 0 HE.out.gh.symm _).set_other _ 1 HE.out.gh.symm _).set_other _ 2 HE.out.gh.symm _).set_other _ 3 HE.out.gh.symm _).set_other _ 4 HE.out.gh.symm _), (((((kk.set_other _ 0 HE.out.gk.symm _).set_other _ 1 HE.out.gk.symm _).set_other _ 2 HE.out.gk.symm _).set_other _ 3 HE.out.gk.symm _).set_other _ 4 HE.out.gk.symm _)⟩ ?_
        clear q1 kg kh kk
        intro wz hz
        have q1 := hz.1
        have kg := hz.2.1
        have kh := hz.2.2.1
        have kk := hz.2.2.2
        clear hz
        (have f0 := kh.frozen 0; have f1 := kh.frozen 1; have f2 := kh.frozen 2; have f3 := kh.frozen 3; have f4 := kh.frozen 4; have c0 := kh.cell 0 _ rfl; have c1 := kh.cell 1 _ rfl; have c2 := kh.cell 2 _ rfl; have c3 := kh.cell 3 _ rfl; have c4 := kh.cell 4 _ rfl; refine wpAny_ready (rs := [14]) (by kernel_rfl) (by simp) ?_; refine AllReady.cons rfl (fun K hK => ?_) AllReady.nil; go_simp; refine hK _ _ ?_; clear hK K f0 f1 f2 f3 f4 c0 c1 c2 c3 c4)
        refine wpAny_letter (fun wz => Below wl.heap.size wl wz ∧ Blk wz g 26 X.f ∧ Blk wz h 26 Y.f ∧ Blk wz k 26 TotT.zero.f) ⟨(((((q1.setCell HE.out.nh _).setCell HE.out.nh _).setCell HE.out.nh _).setCell HE.out.nh _).setCell HE.out.nh _), (((((kg.set_other _ 0 HE.out.gh _).set_other _ 1 HE.out.gh _).set_other _ 2 HE.out.gh _).set_other _ 3 HE.out.gh _).set_other _ 4 HE.out.gh _), (((((kh.set 0 _).set 1 _).set 2 _).set 3 _).set 4 _), (((((kk.set_other _ 0 HE.out.hk.symm _).set_other _ 1 HE.out.hk.symm _).set_other _ 2 HE.out.hk.symm _).set_other _ 3 HE.out.hk.symm _).set_other _ 4 HE.out.hk.symm _)⟩ ?_
        clear q1 kg kh kk
        clear wz
        intro wz hz
        have q1 := hz.1
        have kg := hz.2.1
        have kh := hz.2.2.1
        have kk := hz.2.2.2
        clear hz
        (have f0 := kk.frozen 0; have f1 := kk.frozen 1; have f2 := kk.frozen 2; have f3 := kk.frozen 3; have f4 := kk.frozen 4; have c0 := kk.cell 0 _ rfl; have c1 := kk.cell 1 _ rfl; have c2 := kk.cell 2 _ rfl; have c3 := kk.cell 3 _ rfl; have c4 := kk.cell 4 _ rfl; refine wpAny_ready (rs := [15]) (by kernel_rfl) (by simp) ?_; refine AllReady.cons rfl (fun K hK => ?_) AllReady.nil; go_simp; refine hK _ _ ?_; clear hK K f0 f1 f2 f3 f4 c0 c1 c2 c3 c4)
        refine wpAny_letter (fun wz => Below wl.heap.size wl wz ∧ Blk wz g 26 X.f ∧ Blk wz h 26 Y.f ∧ Blk wz k 26 Z.f) ⟨(((((q1.setCell HE.out.nk _).setCell HE.out.nk _).setCell HE.out.nk _).setCell HE.out.nk _).setCell HE.out.nk _), (((((kg.set_other _ 0 HE.out.gk _).set_other _ 1 HE.out.gk _).set_other _ 2 HE.out.gk _).set_other _ 3 HE.out.gk _).set_other _ 4 HE.out.gk _), (((((kh.set_other _ 0 HE.out.hk _).set_other _ 1 HE.out.hk _).set_other _ 2 HE.out.hk _).set_other _ 3 HE.out.hk _).set_other _ 4 HE.out.hk _), (((((kk.set 0 _).set 1 _).set 2 _).set 3 _).set 4 _)⟩ ?_
        clear q1 kg kh kk
        clear wz
        intro wz hz
        refine wpAny_done (by kernel_rfl) ?_ _
        go_wp2_with fail
        go_meet
        case rel => exact ⟨g, h, k, rfl, rfl, rfl, hz.1, hz.2.1, hz.2.2.1, hz.2.2.2⟩
  case rest =>
    obtain ⟨W0, hW0⟩ : ∃ W0, W0 = wc := ⟨_, rfl⟩
    subst hW0
    obtain ⟨g, h, k, rfl, rfl, rfl, hW2, kg, kh, kk⟩ := hcut
    have bW2 : Below w.heap.size w W0 := below_then bW hW2
    have HL2 : Hid (Lies 7 LineT.f W0 (.slice a n cap) xs) := HL.out.below hW2
    have BX : Hid (∀ j, (sumT (xs.take j)).Bd 13194139533312) := fun j => sumT_bd (fun x hx => HA.out.1 x (List.mem_of_mem_take hx)) 12 (by rw [List.length_take]; have := HN.out; omega)
    have BY : Hid (Y.Bd 13194139533312) := by
      have := BX.out kn
      rw [EY.out] at this
      exact this
    have BZ : Hid (Z.Bd 13194139533312) := by
      rw [← EZ.out]
      exact sumT_bd HA3.out.1 12 (by rw [List.length_drop]; have := HN.out; omega)
    have EYZ : Hid (Y.plus Z = X) := by
      show _ = _
      rw [← EY.out, ← EZ.out, ← sumT_append, List.take_append_drop]
      exact EX.out
    clear HO HA2 HA3 EY EZ E1 bW hW2 T0 HL
    go_upto_region 6 with fail
    refine wp_letter (fun wx => Below W0.heap.size W0 wx ∧ ∃ q, W0.heap.size = q ∧ Blk wx q 26 TotT.zero.f) ⟨below_alloc (Below.refl _ _) _, _, rfl, Blk.fresh _ _ _⟩ ?_
    rintro W ⟨hW, q, eq, kq⟩
    rw [eq]
    have nq : W0.heap.size ≤ q := by omega
    clear eq
    go_wp2
    go_loopw [11, 34] (fun c i wr => ∃ (j : Nat) (S : TotT), j ≤ n ∧ i = .int .i64 j ∧ c = .int .i64 S.cash ∧ sumT (xs.take j) = S ∧ Below W0.heap.size W0 wr ∧ Blk wr q 26 S.f) (fun _ i _ => n - (intOf i).toNat)
    case atStart => exact ⟨0, TotT.zero, Nat.zero_le _, rfl, rfl, rfl, hW, kq⟩
    case round =>
    clear kq hW W
    obtain ⟨j, S, hj, rfl, rfl, eS, hB, bq⟩ := hrel
    by_cases hlt : j < n
    · obtain ⟨b, off, x, rfl, hx, hmem, c0, c1, c2, c3, c4, c5, c6⟩ := HL2.out.line j hlt
      replace c0 := cell_keep hB c0
      replace c1 := cell_keep hB c1
      replace c2 := cell_keep hB c2
      replace c3 := cell_keep hB c3
      replace c4 := cell_keep hB c4
      replace c5 := cell_keep hB c5
      replace c6 := cell_keep hB c6
      have n1 := sumT_next xs j x hx
      have b1 := BX.out j
      rw [eS] at n1 b1
      have xa := HA.out.1 x hmem
      obtain ⟨x0, x1, x2, x3, x4, x5, x6, x7⟩ := xa
      obtain ⟨s1, s2, s3, s4, s5, s6, s7, s8, s9, s10⟩ := b1
      obtain ⟨id, pr, pp, it, rc, lt, df⟩ := x
      obtain ⟨p, q1, i1, r, d⟩ := S
      simp only at c0 c1 c2 c3 c4 c5 c6 x0 x1 x2 x3 x4 x5 x6 x7 s1 s2 s3 s4 s5 s6 s7 s8 s9 s10
      obtain ⟨c, hc⟩ : ∃ c, TotT.cash ⟨p, q1, i1, r, d⟩ = c := ⟨_, rfl⟩
      have hc2 : c = p + q1 + i1 + r := by rw [← hc]; rfl
      rw [hc]
      have LX : Hid (∀ wx : World, Lies 7 LineT.f (wx.alloc (.cells #[.int .i64 id, .int .i64 pr, .int .i64 pp, .int .i64 it, .int .i64 rc, .int .i64 lt, .bool df] 23)) (.slice (some ⟨wx.heap.size, 0, none⟩) 1 1) [⟨id, pr, pp, it, rc, lt, df⟩]) := fun wx => lies_new LineT.len wx [⟨id, pr, pp, it, rc, lt, df⟩] 23 (by unfold maxLen; simp)
      have AX : Hid (∀ y ∈ [(⟨id, pr, pp, it, rc, lt, df⟩ : LineT)], y.Am) := fun y hy => by
        simp only [List.mem_cons, List.not_mem_nil, or_false] at hy
        subst hy
        exact ⟨x0, x1, x2, x3, x4, x5, x6, x7⟩
      obtain ⟨dn, hdn⟩ : ∃ m, LineT.n ⟨id, pr, pp, it, rc, lt, df⟩ = m := ⟨_, rfl⟩
      have hd01 := LineT.n_bd ⟨id, pr, pp, it, rc, lt, df⟩
      rw [hdn] at hd01
      have SX : Hid (sumT [(⟨id, pr, pp, it, rc, lt, df⟩ : LineT)] = ⟨pr, pp, it, rc, dn⟩) := by
        show _ = _
        rw [sumT_one]
        unfold LineT.tot
        rw [hdn]
      have N1 : Hid (sumT (xs.take (j + 1)) = ⟨p + pr, q1 + pp, i1 + it, r + rc, d + dn⟩) := by
        show _ = _
        rw [n1]
        unfold TotT.plus LineT.tot
        simp only [hdn]
      have DN : Hid (LineT.n ⟨id, pr, pp, it, rc, lt, df⟩ = dn) := hdn
      clear n1 eS hx hmem hdn hc
      go_upto_region 9 with fail
      refine wp_letter (fun wx => Below W0.heap.size W0 wx ∧ Blk wx q 26 (TotT.f ⟨p, q1, i1, r, d⟩) ∧ ∃ Q, wr.heap.size = Q ∧ q < Q ∧ Blk wx Q 23 (LineT.f ⟨id, pr, pp, it, rc, lt, df⟩)) ⟨below_alloc hB _, bq.alloc _, _, rfl, bq.lt, Blk.fresh _ _ _⟩ ?_
      clear hB bq c0 c1 c2 c3 c4 c5 c6
      rintro V ⟨hB, bq, Q, eQ, hQ, b3⟩
      rw [eQ]
      clear eQ
      have y0 := b3.cell 0 _ rfl; have y1 := b3.cell 1 _ rfl; have y2 := b3.cell 2 _ rfl; have y3 := b3.cell 3 _ rfl; have y4 := b3.cell 4 _ rfl; have y5 := b3.cell 5 _ rfl; have y6 := b3.cell 6 _ rfl
      go_upto_region 10 with (go_at_call 7; refine (tsum_any _ _ _ (LX.out V) AX.out (by simp)).mono ?_; rintro e w1 ⟨rfl, d1⟩; rw [SX.out]; unfold TotT.v)
      have d2 : Below V.heap.size V w1 := below_then (below_alloc (Below.refl _ _) _) d1
      refine wp_letter (fun wx => Below W0.heap.size W0 wx ∧ Blk wx q 26 (TotT.f ⟨p, q1, i1, r, d⟩) ∧ Blk wx Q 23 (LineT.f ⟨id, pr, pp, it, rc, lt, df⟩) ∧ ∃ H, w1.heap.size = H ∧ Blk wx H 26 (TotT.f ⟨pr, pp, it, rc, dn⟩)) ⟨below_alloc (below_then hB d2) _, (bq.then d2).alloc _, (b3.then d2).alloc _, _, rfl, Blk.fresh _ _ _⟩ ?_
      have hH1 : Q < w1.heap.size := Nat.lt_of_lt_of_le b3.lt d2.size
      clear hB bq b3 y0 y1 y2 y3 y4 y5 y6 d1
      rintro U ⟨hB, bq, b3, H, eH, b4⟩
      rw [eH] at hH1 ⊢
      clear eH
      have g0 : IntKind.i64.wrap (p + pr) = p + pr := wrap_in _ (by omega) (by omega)
      have g1 : IntKind.i64.wrap (q1 + pp) = q1 + pp := wrap_in _ (by omega) (by omega)
      have g2 : IntKind.i64.wrap (i1 + it) = i1 + it := wrap_in _ (by omega) (by omega)
      have g3 : IntKind.i64.wrap (r + rc) = r + rc := wrap_in _ (by omega) (by omega)
      have hqQ : Q ≠ q := by omega
      have hqH : H ≠ q := by omega
      go_cut [34] (fun iv wx => iv = .int .i64 j ∧ Below W0.heap.size W0 wx ∧ Blk wx q 26 (TotT.f ⟨p + pr, q1 + pp, i1 + it, r + rc, d⟩) ∧ Blk wx Q 23 (LineT.f ⟨id, pr, pp, it, rc, lt, df⟩) ∧ Blk wx H 26 (TotT.f ⟨pr, pp, it, rc, dn⟩))
      case first =>
        refine wp_region_g [41, 42, 43, 44, 45, 46, 47, 48, 49, 50, 51, 52, 53, 54, 55, 56, 57, 58, 59, 60, 61, 0, 62, 0, 63, 0, 64, 0] [0, 1, 2, 3, 4, 5, 6, 7, 8, 9, 10, 11, 12, 13, 14, 15, 16, 17, 18, 19, 20, 22, 24, 26] [fun v => v = (.pointer (some ⟨q, 0, none⟩) : Value), fun v => v = (.int .i64 p : Value), fun v => v = (.pointer (some ⟨Q, 1, none⟩) : Value), fun v => v = (.int .i64 pr : Value), fun v => v = (.int .i64 (p + pr) : Value), fun v => v = (.pointer (some ⟨q, 1, none⟩) : Value), fun v => v = (.int .i64 q1 : Value), fun v => v = (.pointer (some ⟨Q, 2, none⟩) : Value), fun v => v = (.int .i64 pp : Value), fun v => v = (.int .i64 (q1 + pp) : Value), fun v => v = (.pointer (some ⟨q, 2, none⟩) : Value), fun v => v = (.int .i64 i1 : Value), fun v => v = (.pointer (some ⟨Q, 3, none⟩) : Value), fun v => v = (.int .i64 it : Value), fun v => v = (.int .i64 (i1 + it) : Value), fun v => v = (.pointer (some ⟨q, 3, none⟩) : Value), fun v => v = (.int .i64 r : Value), fun v => v = (.pointer (some ⟨Q, 4, none⟩) : Value), fun v => v = (.int .i64 rc : Value), fun v => v = (.int .i64 (r + rc) : Value), fun v => v = (.pointer (some ⟨q, 0, none⟩) : Value), fun _ => True, fun v => v = (.pointer (some ⟨q, 1, none⟩) : Value), fun _ => True, fun v => v = (.pointer (some ⟨q, 2, none⟩) : Value), fun _ => True, fun v => v = (.pointer (some ⟨q, 3, none⟩) : Value), fun _ => True] (fun D wx => Below W0.heap.size W0 wx ∧ Blk wx q 26 (TotT.f ⟨if D 21 then p + pr else p, if D 23 then q1 + pp else q1, if D 25 then i1 + it else i1, if D 27 then r + rc else r, d⟩) ∧ Blk wx Q 23 (LineT.f ⟨id, pr, pp, it, rc, lt, df⟩) ∧ Blk wx H 26 (TotT.f ⟨pr, pp, it, rc, dn⟩)) [0, 1, 2, 3, 4, 5, 6, 7, 8, 9, 10, 11, 12, 13, 14, 15, 16, 17, 18, 19, 20, 21, 22, 23, 24, 25, 26, 27] (by kernel_rfl) (by kernel_rfl) (by kernel_rfl) ⟨hB.drew, by simpa using bq.drew, b3.drew, b4.drew⟩ ?_ ?_
        · refine StepsG.cons (some 41) rfl rfl (fun x wx D hg hF hno K hK => ?_) ?_
          · simp only [acts, Act.put, List.getD_cons_zero, List.getD_cons_succ, List.setIfInBounds_toArray, List.set_cons_zero, List.set_cons_succ]
            go_simp
            refine hK.out _ _ (afterG_mk (.pointer (some ⟨q, 0, none⟩)) ?_ rfl (by simpa using hg))
            simp only [acts, Act.put, List.getD_cons_zero, List.getD_cons_succ, List.setIfInBounds_toArray, List.set_cons_zero, List.set_cons_succ]
          refine StepsG.cons (some 42) rfl rfl (fun x wx D hg hF hno K hK => ?_) ?_
          · have f1 : x 0 = .pointer (some ⟨q, 0, none⟩) := (hF 0 (by kernel_rfl)).2
            have h1 : D 21 = false := hno 21 (by kernel_rfl)
            have c1 : wx.cell? ⟨q, 0, none⟩ = some (.int .i64 p) := by
              have := hg.2.1.cell 0 _ rfl
              simpa [h1] using this
            simp only [acts, Act.put, List.getD_cons_zero, List.getD_cons_succ, List.setIfInBounds_toArray, List.set_cons_zero, List.set_cons_succ]
            go_simp
            refine hK.out _ _ (afterG_mk (.int .i64 p) ?_ rfl (by simpa using hg))
            simp only [acts, Act.put, List.getD_cons_zero, List.getD_cons_succ, List.setIfInBounds_toArray, List.set_cons_zero, List.set_cons_succ]
            try simp only [f1]
          refine StepsG.cons (some 43) rfl rfl (fun x wx D hg hF hno K hK => ?_) ?_
          · simp only [acts, Act.put, List.getD_cons_zero, List.getD_cons_succ, List.setIfInBounds_toArray, List.set_cons_zero, List.set_cons_succ]
            go_simp
            refine hK.out _ _ (afterG_mk (.pointer (some ⟨Q, 1, none⟩)) ?_ rfl (by simpa using hg))
            simp only [acts, Act.put, List.getD_cons_zero, List.getD_cons_succ, List.setIfInBounds_toArray, List.set_cons_zero, List.set_cons_succ]
          refine StepsG.cons (some 44) rfl rfl (fun x wx D hg hF hno K hK => ?_) ?_
          · have f1 : x 2 = .pointer (some ⟨Q, 1, none⟩) := (hF 2 (by kernel_rfl)).2
            have c1 : wx.cell? ⟨Q, 1, none⟩ = some (.int .i64 pr) := hg.2.2.1.cell 1 _ rfl
            simp only [acts, Act.put, List.getD_cons_zero, List.getD_cons_succ, List.setIfInBounds_toArray, List.set_cons_zero, List.set_cons_succ]
            go_simp
            refine hK.out _ _ (afterG_mk (.int .i64 pr) ?_ rfl (by simpa using hg))
            simp only [acts, Act.put, List.getD_cons_zero, List.getD_cons_succ, List.setIfInBounds_toArray, List.set_cons_zero, List.set_cons_succ]
            try simp only [f1]
          refine StepsG.cons (some 45) rfl rfl (fun x wx D hg hF hno K hK => ?_) ?_
          · have f1 : x 1 = .int .i64 p := (hF 1 (by kernel_rfl)).2
            have f2 : x 3 = .int .i64 pr := (hF 3 (by kernel_rfl)).2
            simp only [acts, Act.put, List.getD_cons_zero, List.getD_cons_succ, List.setIfInBounds_toArray, List.set_cons_zero, List.set_cons_succ]
            go_simp
            refine hK.out _ _ (afterG_mk (.int .i64 (p + pr)) ?_ rfl (by simpa using hg))
            simp only [acts, Act.put, List.getD_cons_zero, List.getD_cons_succ, List.setIfInBounds_toArray, List.set_cons_zero, List.set_cons_succ]
            try simp only [f1, f2]
          refine StepsG.cons (some 46) rfl rfl (fun x wx D hg hF hno K hK => ?_) ?_
          · simp only [acts, Act.put, List.getD_cons_zero, List.getD_cons_succ, List.setIfInBounds_toArray, List.set_cons_zero, List.set_cons_succ]
            go_simp
            refine hK.out _ _ (afterG_mk (.pointer (some ⟨q, 1, none⟩)) ?_ rfl (by simpa using hg))
            simp only [acts, Act.put, List.getD_cons_zero, List.getD_cons_succ, List.setIfInBounds_toArray, List.set_cons_zero, List.set_cons_succ]
          refine StepsG.cons (some 47) rfl rfl (fun x wx D hg hF hno K hK => ?_) ?_
          · have f1 : x 5 = .pointer (some ⟨q, 1, none⟩) := (hF 5 (by kernel_rfl)).2
            have h1 : D 23 = false := hno 23 (by kernel_rfl)
            have c1 : wx.cell? ⟨q, 1, none⟩ = some (.int .i64 q1) := by
              have := hg.2.1.cell 1 _ rfl
              simpa [h1] using this
            simp only [acts, Act.put, List.getD_cons_zero, List.getD_cons_succ, List.setIfInBounds_toArray, List.set_cons_zero, List.set_cons_succ]
            go_simp
            refine hK.out _ _ (afterG_mk (.int .i64 q1) ?_ rfl (by simpa using hg))
            simp only [acts, Act.put, List.getD_cons_zero, List.getD_cons_succ, List.setIfInBounds_toArray, List.set_cons_zero, List.set_cons_succ]
            try simp only [f1]
          refine StepsG.cons (some 48) rfl rfl (fun x wx D hg hF hno K hK => ?_) ?_
          · simp only [acts, Act.put, List.getD_cons_zero, List.getD_cons_succ, List.setIfInBounds_toArray, List.set_cons_zero, List.set_cons_succ]
            go_simp
            refine hK.out _ _ (afterG_mk (.pointer (some ⟨Q, 2, none⟩)) ?_ rfl (by simpa using hg))
            simp only [acts, Act.put, List.getD_cons_zero, List.getD_cons_succ, List.setIfInBounds_toArray, List.set_cons_zero, List.set_cons_succ]
          refine StepsG.cons (some 49) rfl rfl (fun x wx D hg hF hno K hK => ?_) ?_
          · have f1 : x 7 = .pointer (some ⟨Q, 2, none⟩) := (hF 7 (by kernel_rfl)).2
            have c1 : wx.cell? ⟨Q, 2, none⟩ = some (.int .i64 pp) := hg.2.2.1.cell 2 _ rfl
            simp only [acts, Act.put, List.getD_cons_zero, List.getD_cons_succ, List.setIfInBounds_toArray, List.set_cons_zero, List.set_cons_succ]
            go_simp
            refine hK.out _ _ (afterG_mk (.int .i64 pp) ?_ rfl (by simpa using hg))
            simp only [acts, Act.put, List.getD_cons_zero, List.getD_cons_succ, List.setIfInBounds_toArray, List.set_cons_zero, List.set_cons_succ]
            try simp only [f1]
          refine StepsG.cons (some 50) rfl rfl (fun x wx D hg hF hno K hK => ?_) ?_
          · have f1 : x 6 = .int .i64 q1 := (hF 6 (by kernel_rfl)).2
            have f2 : x 8 = .int .i64 pp := (hF 8 (by kernel_rfl)).2
            simp only [acts, Act.put, List.getD_cons_zero, List.getD_cons_succ, List.setIfInBounds_toArray, List.set_cons_zero, List.set_cons_succ]
            go_simp
            refine hK.out _ _ (afterG_mk (.int .i64 (q1 + pp)) ?_ rfl (by simpa using hg))
            simp only [acts, Act.put, List.getD_cons_zero, List.getD_cons_succ, List.setIfInBounds_toArray, List.set_cons_zero, List.set_cons_succ]
            try simp only [f1, f2]
          refine StepsG.cons (some 51) rfl rfl (fun x wx D hg hF hno K hK => ?_) ?_
          · simp only [acts, Act.put, List.getD_cons_zero, List.getD_cons_succ, List.setIfInBounds_toArray, List.set_cons_zero, List.set_cons_succ]
            go_simp
            refine hK.out _ _ (afterG_mk (.pointer (some ⟨q, 2, none⟩)) ?_ rfl (by simpa using hg))
            simp only [acts, Act.put, List.getD_cons_zero, List.getD_cons_succ, List.setIfInBounds_toArray, List.set_cons_zero, List.set_cons_succ]
          refine StepsG.cons (some 52) rfl rfl (fun x wx D hg hF hno K hK => ?_) ?_
          · have f1 : x 10 = .pointer (some ⟨q, 2, none⟩) := (hF 10 (by kernel_rfl)).2
            have h1 : D 25 = false := hno 25 (by kernel_rfl)
            have c1 : wx.cell? ⟨q, 2, none⟩ = some (.int .i64 i1) := by
              have := hg.2.1.cell 2 _ rfl
              simpa [h1] using this
            simp only [acts, Act.put, List.getD_cons_zero, List.getD_cons_succ, List.setIfInBounds_toArray, List.set_cons_zero, List.set_cons_succ]
            go_simp
            refine hK.out _ _ (afterG_mk (.int .i64 i1) ?_ rfl (by simpa using hg))
            simp only [acts, Act.put, List.getD_cons_zero, List.getD_cons_succ, List.setIfInBounds_toArray, List.set_cons_zero, List.set_cons_succ]
            try simp only [f1]
          refine StepsG.cons (some 53) rfl rfl (fun x wx D hg hF hno K hK => ?_) ?_
          · simp only [acts, Act.put, List.getD_cons_zero, List.getD_cons_succ, List.setIfInBounds_toArray, List.set_cons_zero, List.set_cons_succ]
            go_simp
            refine hK.out _ _ (afterG_mk (.pointer (some ⟨Q, 3, none⟩)) ?_ rfl (by simpa using hg))
            simp only [acts, Act.put, List.getD_cons_zero, List.getD_cons_succ, List.setIfInBounds_toArray, List.set_cons_zero, List.set_cons_succ]
          refine StepsG.cons (some 54) rfl rfl (fun x wx D hg hF hno K hK => ?_) ?_
          · have f1 : x 12 = .pointer (some ⟨Q, 3, none⟩) := (hF 12 (by kernel_rfl)).2
            have c1 : wx.cell? ⟨Q, 3, none⟩ = some (.int .i64 it) := hg.2.2.1.cell 3 _ rfl
            simp only [acts, Act.put, List.getD_cons_zero, List.getD_cons_succ, List.setIfInBounds_toArray, List.set_cons_zero, List.set_cons_succ]
            go_simp
            refine hK.out _ _ (afterG_mk (.int .i64 it) ?_ rfl (by simpa using hg))
            simp only [acts, Act.put, List.getD_cons_zero, List.getD_cons_succ, List.setIfInBounds_toArray, List.set_cons_zero, List.set_cons_succ]
            try simp only [f1]
          refine StepsG.cons (some 55) rfl rfl (fun x wx D hg hF hno K hK => ?_) ?_
          · have f1 : x 11 = .int .i64 i1 := (hF 11 (by kernel_rfl)).2
            have f2 : x 13 = .int .i64 it := (hF 13 (by kernel_rfl)).2
            simp only [acts, Act.put, List.getD_cons_zero, List.getD_cons_succ, List.setIfInBounds_toArray, List.set_cons_zero, List.set_cons_succ]
            go_simp
            refine hK.out _ _ (afterG_mk (.int .i64 (i1 + it)) ?_ rfl (by simpa using hg))
            simp only [acts, Act.put, List.getD_cons_zero, List.getD_cons_succ, List.setIfInBounds_toArray, List.set_cons_zero, List.set_cons_succ]
            try simp only [f1, f2]
          refine StepsG.cons (some 56) rfl rfl (fun x wx D hg hF hno K hK => ?_) ?_
          · simp only [acts, Act.put, List.getD_cons_zero, List.getD_cons_succ, List.setIfInBounds_toArray, List.set_cons_zero, List.set_cons_succ]
            go_simp
            refine hK.out _ _ (afterG_mk (.pointer (some ⟨q, 3, none⟩)) ?_ rfl (by simpa using hg))
            simp only [acts, Act.put, List.getD_cons_zero, List.getD_cons_succ, List.setIfInBounds_toArray, List.set_cons_zero, List.set_cons_succ]
          refine StepsG.cons (some 57) rfl rfl (fun x wx D hg hF hno K hK => ?_) ?_
          · have f1 : x 15 = .pointer (some ⟨q, 3, none⟩) := (hF 15 (by kernel_rfl)).2
            have h1 : D 27 = false := hno 27 (by kernel_rfl)
            have c1 : wx.cell? ⟨q, 3, none⟩ = some (.int .i64 r) := by
              have := hg.2.1.cell 3 _ rfl
              simpa [h1] using this
            simp only [acts, Act.put, List.getD_cons_zero, List.getD_cons_succ, List.setIfInBounds_toArray, List.set_cons_zero, List.set_cons_succ]
            go_simp
            refine hK.out _ _ (afterG_mk (.int .i64 r) ?_ rfl (by simpa using hg))
            simp only [acts, Act.put, List.getD_cons_zero, List.getD_cons_succ, List.setIfInBounds_toArray, List.set_cons_zero, List.set_cons_succ]
            try simp only [f1]
          refine StepsG.cons (some 58) rfl rfl (fun x wx D hg hF hno K hK => ?_) ?_
          · simp only [acts, Act.put, List.getD_cons_zero, List.getD_cons_succ, List.setIfInBounds_toArray, List.set_cons_zero, List.set_cons_succ]
            go_simp
            refine hK.out _ _ (afterG_mk (.pointer (some ⟨Q, 4, none⟩)) ?_ rfl (by simpa using hg))
            simp only [acts, Act.put, List.getD_cons_zero, List.getD_cons_succ, List.setIfInBounds_toArray, List.set_cons_zero, List.set_cons_succ]
          refine StepsG.cons (some 59) rfl rfl (fun x wx D hg hF hno K hK => ?_) ?_
          · have f1 : x 17 = .pointer (some ⟨Q, 4, none⟩) := (hF 17 (by kernel_rfl)).2
            have c1 : wx.cell? ⟨Q, 4, none⟩ = some (.int .i64 rc) := hg.2.2.1.cell 4 _ rfl
            simp only [acts, Act.put, List.getD_cons_zero, List.getD_cons_succ, List.setIfInBounds_toArray, List.set_cons_zero, List.set_cons_succ]
            go_simp
            refine hK.out _ _ (afterG_mk (.int .i64 rc) ?_ rfl (by simpa using hg))
            simp only [acts, Act.put, List.getD_cons_zero, List.getD_cons_succ, List.setIfInBounds_toArray, List.set_cons_zero, List.set_cons_succ]
            try simp only [f1]
          refine StepsG.cons (some 60) rfl rfl (fun x wx D hg hF hno K hK => ?_) ?_
          · have f1 : x 16 = .int .i64 r := (hF 16 (by kernel_rfl)).2
            have f2 : x 18 = .int .i64 rc := (hF 18 (by kernel_rfl)).2
            simp only [acts, Act.put, List.getD_cons_zero, List.getD_cons_succ, List.setIfInBounds_toArray, List.set_cons_zero, List.set_cons_succ]
            go_simp
            refine hK.out _ _ (afterG_mk (.int .i64 (r + rc)) ?_ rfl (by simpa using hg))
            simp only [acts, Act.put, List.getD_cons_zero, List.getD_cons_succ, List.setIfInBounds_toArray, List.set_cons_zero, List.set_cons_succ]
            try simp only [f1, f2]
          refine StepsG.cons (some 61) rfl rfl (fun x wx D hg hF hno K hK => ?_) ?_
          · simp only [acts, Act.put, List.getD_cons_zero, List.getD_cons_succ, List.setIfInBounds_toArray, List.set_cons_zero, List.set_cons_succ]
            go_simp
            refine hK.out _ _ (afterG_mk (.pointer (some ⟨q, 0, none⟩)) ?_ rfl (by simpa using hg))
            simp only [acts, Act.put, List.getD_cons_zero, List.getD_cons_succ, List.setIfInBounds_toArray, List.set_cons_zero, List.set_cons_succ]
          refine StepsG.cons none rfl rfl (fun x wx D hg hF hno K hK => ?_) ?_
          · have f1 : x 20 = .pointer (some ⟨q, 0, none⟩) := (hF 20 (by kernel_rfl)).2
            have f2 : x 4 = .int .i64 (p + pr) := (hF 4 (by kernel_rfl)).2
            have c0 := hg.2.1.cell 0 _ rfl
            have f0 := hg.2.1.frozen 0
            simp only [acts, Act.put, List.getD_cons_zero, List.getD_cons_succ, List.setIfInBounds_toArray, List.set_cons_zero, List.set_cons_succ]
            go_simp
            refine hK.out _ _ (afterG_mk undef ?_ trivial ⟨hg.1.setCell nq _, ?_, hg.2.2.1.set_other _ _ hqQ _, hg.2.2.2.set_other _ _ hqH _⟩)
            · simp only [acts, Act.put, List.getD_cons_zero, List.getD_cons_succ, List.setIfInBounds_toArray, List.set_cons_zero, List.set_cons_succ]
              try simp only [f1, f2]
            · simpa [TotT.f] using hg.2.1.set 0 (.int .i64 (p + pr))
          refine StepsG.cons (some 62) rfl rfl (fun x wx D hg hF hno K hK => ?_) ?_
          · simp only [acts, Act.put, List.getD_cons_zero, List.getD_cons_succ, List.setIfInBounds_toArray, List.set_cons_zero, List.set_cons_succ]
            go_simp
            refine hK.out _ _ (afterG_mk (.pointer (some ⟨q, 1, none⟩)) ?_ rfl (by simpa using hg))
            simp only [acts, Act.put, List.getD_cons_zero, List.getD_cons_succ, List.setIfInBounds_toArray, List.set_cons_zero, List.set_cons_succ]
          refine StepsG.cons none rfl rfl (fun x wx D hg hF hno K hK => ?_) ?_
          · have f1 : x 22 = .pointer (some ⟨q, 1, none⟩) := (hF 22 (by kernel_rfl)).2
            have f2 : x 9 = .int .i64 (q1 + pp) := (hF 9 (by kernel_rfl)).2
            have c0 := hg.2.1.cell 1 _ rfl
            have f0 := hg.2.1.frozen 1
            simp only [acts, Act.put, List.getD_cons_zero, List.getD_cons_succ, List.setIfInBounds_toArray, List.set_cons_zero, List.set_cons_succ]
            go_simp
            refine hK.out _ _ (afterG_mk undef ?_ trivial ⟨hg.1.setCell nq _, ?_, hg.2.2.1.set_other _ _ hqQ _, hg.2.2.2.set_other _ _ hqH _⟩)
            · simp only [acts, Act.put, List.getD_cons_zero, List.getD_cons_succ, List.setIfInBounds_toArray, List.set_cons_zero, List.set_cons_succ]
              try simp only [f1, f2]
            · simpa [TotT.f] using hg.2.1.set 1 (.int .i64 (q1 + pp))
          refine StepsG.cons (some 63) rfl rfl (fun x wx D hg hF hno K hK => ?_) ?_
          · simp only [acts, Act.put, List.getD_cons_zero, List.getD_cons_succ, List.setIfInBounds_toArray, List.set_cons_zero, List.set_cons_succ]
            go_simp
            refine hK.out _ _ (afterG_mk (.pointer (some ⟨q, 2, none⟩)) ?_ rfl (by simpa using hg))
            simp only [acts, Act.put, List.getD_cons_zero, List.getD_cons_succ, List.setIfInBounds_toArray, List.set_cons_zero, List.set_cons_succ]
          refine StepsG.cons none rfl rfl (fun x wx D hg hF hno K hK => ?_) ?_
          · have f1 : x 24 = .pointer (some ⟨q, 2, none⟩) := (hF 24 (by kernel_rfl)).2
            have f2 : x 14 = .int .i64 (i1 + it) := (hF 14 (by kernel_rfl)).2
            have c0 := hg.2.1.cell 2 _ rfl
            have f0 := hg.2.1.frozen 2
            simp only [acts, Act.put, List.getD_cons_zero, List.getD_cons_succ, List.setIfInBounds_toArray, List.set_cons_zero, List.set_cons_succ]
            go_simp
            refine hK.out _ _ (afterG_mk undef ?_ trivial ⟨hg.1.setCell nq _, ?_, hg.2.2.1.set_other _ _ hqQ _, hg.2.2.2.set_other _ _ hqH _⟩)
            · simp only [acts, Act.put, List.getD_cons_zero, List.getD_cons_succ, List.setIfInBounds_toArray, List.set_cons_zero, List.set_cons_succ]
              try simp only [f1, f2]
            · simpa [TotT.f] using hg.2.1.set 2 (.int .i64 (i1 + it))
          refine StepsG.cons (some 64) rfl rfl (fun x wx D hg hF hno K hK => ?_) ?_
          · simp only [acts, Act.put, List.getD_cons_zero, List.getD_cons_succ, List.setIfInBounds_toArray, List.set_cons_zero, List.set_cons_succ]
            go_simp
            refine hK.out _ _ (afterG_mk (.pointer (some ⟨q, 3, none⟩)) ?_ rfl (by simpa using hg))
            simp only [acts, Act.put, List.getD_cons_zero, List.getD_cons_succ, List.setIfInBounds_toArray, List.set_cons_zero, List.set_cons_succ]
          refine StepsG.cons none rfl rfl (fun x wx D hg hF hno K hK => ?_) ?_
          · have f1 : x 26 = .pointer (some ⟨q, 3, none⟩) := (hF 26 (by kernel_rfl)).2
            have f2 : x 19 = .int .i64 (r + rc) := (hF 19 (by kernel_rfl)).2
            have c0 := hg.2.1.cell 3 _ rfl
            have f0 := hg.2.1.frozen 3
            simp only [acts, Act.put, List.getD_cons_zero, List.getD_cons_succ, List.setIfInBounds_toArray, List.set_cons_zero, List.set_cons_succ]
            go_simp
            refine hK.out _ _ (afterG_mk undef ?_ trivial ⟨hg.1.setCell nq _, ?_, hg.2.2.1.set_other _ _ hqQ _, hg.2.2.2.set_other _ _ hqH _⟩)
            · simp only [acts, Act.put, List.getD_cons_zero, List.getD_cons_succ, List.setIfInBounds_toArray, List.set_cons_zero, List.set_cons_succ]
              try simp only [f1, f2]
            · simpa [TotT.f] using hg.2.1.set 3 (.int .i64 (r + rc))
          exact StepsG.nil
        · intro x wx _ hg
          simp only [acts, Act.put, List.getD_cons_zero, List.getD_cons_succ, List.setIfInBounds_toArray, List.set_cons_zero, List.set_cons_succ]
          go_wp2_with fail
          go_meet
          case rel => exact ⟨rfl, hg.1, by simpa using hg.2.1, hg.2.2.1, hg.2.2.2⟩
      case rest =>
        clear hB bq b3 b4
        obtain ⟨rfl, hB, bq, b3, b4⟩ := hcut
        cases df with
        | false =>
          obtain rfl : dn = 0 := by rw [← DN.out]; rfl
          have y1 := b3.cell 1 _ rfl; have y2 := b3.cell 2 _ rfl; have y3 := b3.cell 3 _ rfl; have y4 := b3.cell 4 _ rfl; have y6 := b3.cell 6 _ rfl
          have z4 := bq.cell 4 _ rfl
          have f4 := bq.frozen 4
          have m1 : IntKind.i64.wrap (pr + pp) = pr + pp := wrap_in _ (by omega) (by omega)
          have m2 : IntKind.i64.wrap (pr + pp + it) = pr + pp + it := wrap_in _ (by omega) (by omega)
          have m3 : IntKind.i64.wrap (pr + pp + it + rc) = pr + pp + it + rc := wrap_in _ (by omega) (by omega)
          go_upto_region 14 with fail
          refine wp_letter (fun wx => Below W0.heap.size W0 wx ∧ Blk wx q 26 (TotT.f ⟨p + pr, q1 + pp, i1 + it, r + rc, d + 0⟩) ∧ Blk wx Q 23 (LineT.f ⟨id, pr, pp, it, rc, lt, false⟩) ∧ Blk wx H 26 (TotT.f ⟨pr, pp, it, rc, 0⟩)) ⟨hB, by simpa using bq, b3, b4⟩ ?_
          clear hB bq b3 b4 y1 y2 y3 y4 y6 z4 f4
          rintro X2 ⟨hB, bq, b3, b4⟩
          have cX : ∀ wx, Below X2.heap.size X2 wx → (wx.cell? ⟨H, 0, none⟩ = some (.int .i64 pr) ∧ wx.cell? ⟨H, 1, none⟩ = some (.int .i64 pp) ∧ wx.cell? ⟨H, 2, none⟩ = some (.int .i64 it) ∧ wx.cell? ⟨H, 3, none⟩ = some (.int .i64 rc) ∧ wx.cell? ⟨H, 4, none⟩ = some (.int .i64 0)) ∧ wx.cell? ⟨Q, 1, none⟩ = some (.int .i64 pr) ∧ wx.cell? ⟨Q, 2, none⟩ = some (.int .i64 pp) ∧ wx.cell? ⟨Q, 3, none⟩ = some (.int .i64 it) ∧ wx.cell? ⟨Q, 4, none⟩ = some (.int .i64 rc) := fun wx bx => by
            have h3 := b3.then bx
            have h4 := b4.then bx
            exact ⟨⟨h4.cell 0 _ rfl, h4.cell 1 _ rfl, h4.cell 2 _ rfl, h4.cell 3 _ rfl, h4.cell 4 _ rfl⟩, h3.cell 1 _ rfl, h3.cell 2 _ rfl, h3.cell 3 _ rfl, h3.cell 4 _ rfl⟩
          have PC : Hid (∀ (w : World) (R : Ending → World → Prop), (∀ w', Below w.heap.size w w' → R (.returned (.int .i64 (pr + pp + it + rc))) w') → Calls Try.prog 9 #[.agg #[.int .i64 pr, .int .i64 pp, .int .i64 it, .int .i64 rc, .int .i64 0]] w R) := cash_k (t := ⟨pr, pp, it, rc, 0⟩) (c := pr + pp + it + rc) rfl ⟨by simp only; omega, by simp only; omega, by simp only; omega, by simp only; omega, by simp only; omega, by simp only; omega, by simp only; omega, by simp only; omega, by simp only; omega, by simp only; omega⟩
          have hb2 : Below X2.heap.size X2 X2.drew := (Below.refl _ _).drew
          go_region_held3 (fun wx => Below X2.heap.size X2 wx ∧ (wx.cell? ⟨H, 0, none⟩ = some (.int .i64 pr) ∧ wx.cell? ⟨H, 1, none⟩ = some (.int .i64 pp) ∧ wx.cell? ⟨H, 2, none⟩ = some (.int .i64 it) ∧ wx.cell? ⟨H, 3, none⟩ = some (.int .i64 rc) ∧ wx.cell? ⟨H, 4, none⟩ = some (.int .i64 0)) ∧ wx.cell? ⟨Q, 1, none⟩ = some (.int .i64 pr) ∧ wx.cell? ⟨Q, 2, none⟩ = some (.int .i64 pp) ∧ wx.cell? ⟨Q, 3, none⟩ = some (.int .i64 it) ∧ wx.cell? ⟨Q, 4, none⟩ = some (.int .i64 rc)) (exact held (cX _) hb2) (first | (with_reducible refine PC.out _ _ (fun wl2 bn => ?_); replace hb2 := below_then hb2 bn))
          go_wp2
          go_roundw
          case rel => exact ⟨j + 1, ⟨p + pr, q1 + pp, i1 + it, r + rc, d + 0⟩, by omega, by go_num, congrArg (Value.int .i64) (by unfold TotT.cash; simp only; omega), N1.out, below_then hB hb2, bq.then hb2⟩
          case measure => simp [intOf]; omega
        | true =>
          obtain rfl : dn = 1 := by rw [← DN.out]; rfl
          have y1 := b3.cell 1 _ rfl; have y2 := b3.cell 2 _ rfl; have y3 := b3.cell 3 _ rfl; have y4 := b3.cell 4 _ rfl; have y6 := b3.cell 6 _ rfl
          have z4 := bq.cell 4 _ rfl
          have f4 := bq.frozen 4
          have m1 : IntKind.i64.wrap (pr + pp) = pr + pp := wrap_in _ (by omega) (by omega)
          have m2 : IntKind.i64.wrap (pr + pp + it) = pr + pp + it := wrap_in _ (by omega) (by omega)
          have m3 : IntKind.i64.wrap (pr + pp + it + rc) = pr + pp + it + rc := wrap_in _ (by omega) (by omega)
          go_upto_region 14 with fail
          refine wp_letter (fun wx => Below W0.heap.size W0 wx ∧ Blk wx q 26 (TotT.f ⟨p + pr, q1 + pp, i1 + it, r + rc, d + 1⟩) ∧ Blk wx Q 23 (LineT.f ⟨id, pr, pp, it, rc, lt, true⟩) ∧ Blk wx H 26 (TotT.f ⟨pr, pp, it, rc, 1⟩)) ⟨hB.setCell nq _, by simpa [TotT.f] using bq.set 4 (.int .i64 (d + 1)), b3.set_other _ _ hqQ _, b4.set_other _ _ hqH _⟩ ?_
          clear hB bq b3 b4 y1 y2 y3 y4 y6 z4 f4
          rintro X2 ⟨hB, bq, b3, b4⟩
          have cX : ∀ wx, Below X2.heap.size X2 wx → (wx.cell? ⟨H, 0, none⟩ = some (.int .i64 pr) ∧ wx.cell? ⟨H, 1, none⟩ = some (.int .i64 pp) ∧ wx.cell? ⟨H, 2, none⟩ = some (.int .i64 it) ∧ wx.cell? ⟨H, 3, none⟩ = some (.int .i64 rc) ∧ wx.cell? ⟨H, 4, none⟩ = some (.int .i64 1)) ∧ wx.cell? ⟨Q, 1, none⟩ = some (.int .i64 pr) ∧ wx.cell? ⟨Q, 2, none⟩ = some (.int .i64 pp) ∧ wx.cell? ⟨Q, 3, none⟩ = some (.int .i64 it) ∧ wx.cell? ⟨Q, 4, none⟩ = some (.int .i64 rc) := fun wx bx => by
            have h3 := b3.then bx
            have h4 := b4.then bx
            exact ⟨⟨h4.cell 0 _ rfl, h4.cell 1 _ rfl, h4.cell 2 _ rfl, h4.cell 3 _ rfl, h4.cell 4 _ rfl⟩, h3.cell 1 _ rfl, h3.cell 2 _ rfl, h3.cell 3 _ rfl, h3.cell 4 _ rfl⟩
          have PC : Hid (∀ (w : World) (R : Ending → World → Prop), (∀ w', Below w.heap.size w w' → R (.returned (.int .i64 (pr + pp + it + rc))) w') → Calls Try.prog 9 #[.agg #[.int .i64 pr, .int .i64 pp, .int .i64 it, .int .i64 rc, .int .i64 1]] w R) := cash_k (t := ⟨pr, pp, it, rc, 1⟩) (c := pr + pp + it + rc) rfl ⟨by simp only; omega, by simp only; omega, by simp only; omega, by simp only; omega, by simp only; omega, by simp only; omega, by simp only; omega, by simp only; omega, by simp only; omega, by simp only; omega⟩
          have hb2 : Below X2.heap.size X2 X2.drew := (Below.refl _ _).drew
          go_region_held3 (fun wx => Below X2.heap.size X2 wx ∧ (wx.cell? ⟨H, 0, none⟩ = some (.int .i64 pr) ∧ wx.cell? ⟨H, 1, none⟩ = some (.int .i64 pp) ∧ wx.cell? ⟨H, 2, none⟩ = some (.int .i64 it) ∧ wx.cell? ⟨H, 3, none⟩ = some (.int .i64 rc) ∧ wx.cell? ⟨H, 4, none⟩ = some (.int .i64 1)) ∧ wx.cell? ⟨Q, 1, none⟩ = some (.int .i64 pr) ∧ wx.cell? ⟨Q, 2, none⟩ = some (.int .i64 pp) ∧ wx.cell? ⟨Q, 3, none⟩ = some (.int .i64 it) ∧ wx.cell? ⟨Q, 4, none⟩ = some (.int .i64 rc)) (exact held (cX _) hb2) (first | (with_reducible refine PC.out _ _ (fun wl2 bn => ?_); replace hb2 := below_then hb2 bn))
          go_wp2
          go_roundw
          case rel => exact ⟨j + 1, ⟨p + pr, q1 + pp, i1 + it, r + rc, d + 1⟩, by omega, by go_num, congrArg (Value.int .i64) (by unfold TotT.cash; simp only; omega), N1.out, below_then hB hb2, bq.then hb2⟩
          case measure => simp [intOf]; omega
    · obtain rfl : j = n := by omega
      have eT : xs.take j = xs := by rw [← HN.out]; exact List.take_length
      have bX := BX.out j
      rw [eT, EX.out] at eS bX
      subst eS
      go_upto_region 17 with fail
      have kg2 := kg.then hB
      have kh2 := kh.then hB
      have kk2 := kk.then hB
      have cV : ∀ wx, Below wr.heap.size wr wx → (wx.cell? ⟨g, 0, none⟩ = some (.int .i64 X.p) ∧ wx.cell? ⟨g, 1, none⟩ = some (.int .i64 X.q) ∧ wx.cell? ⟨g, 2, none⟩ = some (.int .i64 X.i) ∧ wx.cell? ⟨g, 3, none⟩ = some (.int .i64 X.r) ∧ wx.cell? ⟨g, 4, none⟩ = some (.int .i64 X.d)) ∧ (wx.cell? ⟨h, 0, none⟩ = some (.int .i64 Y.p) ∧ wx.cell? ⟨h, 1, none⟩ = some (.int .i64 Y.q) ∧ wx.cell? ⟨h, 2, none⟩ = some (.int .i64 Y.i) ∧ wx.cell? ⟨h, 3, none⟩ = some (.int .i64 Y.r) ∧ wx.cell? ⟨h, 4, none⟩ = some (.int .i64 Y.d)) ∧ (wx.cell? ⟨k, 0, none⟩ = some (.int .i64 Z.p) ∧ wx.cell? ⟨k, 1, none⟩ = some (.int .i64 Z.q) ∧ wx.cell? ⟨k, 2, none⟩ = some (.int .i64 Z.i) ∧ wx.cell? ⟨k, 3, none⟩ = some (.int .i64 Z.r) ∧ wx.cell? ⟨k, 4, none⟩ = some (.int .i64 Z.d)) ∧ (wx.cell? ⟨q, 0, none⟩ = some (.int .i64 X.p) ∧ wx.cell? ⟨q, 1, none⟩ = some (.int .i64 X.q) ∧ wx.cell? ⟨q, 2, none⟩ = some (.int .i64 X.i) ∧ wx.cell? ⟨q, 3, none⟩ = some (.int .i64 X.r) ∧ wx.cell? ⟨q, 4, none⟩ = some (.int .i64 X.d)) := fun wx bx => by
        have hA := kg2.then bx
        have hB := kh2.then bx
        have hC := kk2.then bx
        have hD := bq.then bx
        exact ⟨⟨hA.cell 0 _ rfl, hA.cell 1 _ rfl, hA.cell 2 _ rfl, hA.cell 3 _ rfl, hA.cell 4 _ rfl⟩, ⟨hB.cell 0 _ rfl, hB.cell 1 _ rfl, hB.cell 2 _ rfl, hB.cell 3 _ rfl, hB.cell 4 _ rfl⟩, ⟨hC.cell 0 _ rfl, hC.cell 1 _ rfl, hC.cell 2 _ rfl, hC.cell 3 _ rfl, hC.cell 4 _ rfl⟩, hD.cell 0 _ rfl, hD.cell 1 _ rfl, hD.cell 2 _ rfl, hD.cell 3 _ rfl, hD.cell 4 _ rfl⟩
      have P1 : Hid (_) := tplus_k EYZ.out BY.out BZ.out (by omega)
      have P2 : Hid (_) := tplus_k ((TotT.plus_comm Z Y).trans EYZ.out) BZ.out BY.out (by omega)
      have P3 : Hid (_) := cash_k (t := X) (c := X.cash) rfl (bX.mono (by omega))
      have P4 : Hid (∀ (w : World) (R : Ending → World → Prop), (∀ w', Below w.heap.size w w' → R (.returned (.agg #[.int .i64 0, .int .i64 0, .int .i64 0, .int .i64 0, .int .i64 0])) w') → Calls Try.prog 7 #[.slice none 0 0] w R) := fun w R k => tsum_e (X := TotT.zero) (xs := []) rfl (Lies.nil _ _ _) (by simp) (by simp) k
      have hb2 : Below wr.heap.size wr wr.drew := (Below.refl _ _).drew
      clear kg kh kk kg2 kh2 kk2 bq bX
      go_region_held3 (fun wx => Below wr.heap.size wr wx ∧ (wx.cell? ⟨g, 0, none⟩ = some (.int .i64 X.p) ∧ wx.cell? ⟨g, 1, none⟩ = some (.int .i64 X.q) ∧ wx.cell? ⟨g, 2, none⟩ = some (.int .i64 X.i) ∧ wx.cell? ⟨g, 3, none⟩ = some (.int .i64 X.r) ∧ wx.cell? ⟨g, 4, none⟩ = some (.int .i64 X.d)) ∧ (wx.cell? ⟨h, 0, none⟩ = some (.int .i64 Y.p) ∧ wx.cell? ⟨h, 1, none⟩ = some (.int .i64 Y.q) ∧ wx.cell? ⟨h, 2, none⟩ = some (.int .i64 Y.i) ∧ wx.cell? ⟨h, 3, none⟩ = some (.int .i64 Y.r) ∧ wx.cell? ⟨h, 4, none⟩ = some (.int .i64 Y.d)) ∧ (wx.cell? ⟨k, 0, none⟩ = some (.int .i64 Z.p) ∧ wx.cell? ⟨k, 1, none⟩ = some (.int .i64 Z.q) ∧ wx.cell? ⟨k, 2, none⟩ = some (.int .i64 Z.i) ∧ wx.cell? ⟨k, 3, none⟩ = some (.int .i64 Z.r) ∧ wx.cell? ⟨k, 4, none⟩ = some (.int .i64 Z.d)) ∧ (wx.cell? ⟨q, 0, none⟩ = some (.int .i64 X.p) ∧ wx.cell? ⟨q, 1, none⟩ = some (.int .i64 X.q) ∧ wx.cell? ⟨q, 2, none⟩ = some (.int .i64 X.i) ∧ wx.cell? ⟨q, 3, none⟩ = some (.int .i64 X.r) ∧ wx.cell? ⟨q, 4, none⟩ = some (.int .i64 X.d))) (exact held (cV _) hb2) (first | (with_reducible refine P1.out _ _ (fun wl2 bn => ?_); replace hb2 := below_then hb2 bn) | (with_reducible refine P2.out _ _ (fun wl2 bn => ?_); replace hb2 := below_then hb2 bn) | (with_reducible refine P3.out _ _ (fun wl2 bn => ?_); replace hb2 := below_then hb2 bn) | (with_reducible refine P4.out _ _ (fun wl2 bn => ?_); replace hb2 := below_then hb2 bn) | (with_reducible refine tapeRuns_k _ _ (fun wl2 bn => ?_); replace hb2 := below_then hb2 bn))
      go_wp2
      go_ret
      exact ⟨rfl, below_then bW2 (below_then hB hb2)⟩
theorem tapeSums_law (v0 v1 : Value) (w : World) (w0 : Arg w (.struct (.cons 1 (.slice 1 (.int .i64)) (.cons 1 (.slice 1 (.int .i64)) (.cons 1 (.slice 1 (.int .i64)) (.cons 1 (.slice 1 (.int .i64)) (.cons 1 (.slice 1 (.int .i64)) (.cons 1 (.slice 1 (.int .i64)) .nil))))))) v0) (w1 : Arg w (.int .i64) v1) :
    Calls Try.prog 5 #[v0, v1] w fun e w' => e = .returned (.bool true) ∧ Below w.heap.size w w' := by
  obtain ⟨n, rfl, _⟩ := arg_int w1
  exact tapeSums_any v0 n w (arg_tape w0)
end Go.Proofs.Ytibakfhalabdaaa
