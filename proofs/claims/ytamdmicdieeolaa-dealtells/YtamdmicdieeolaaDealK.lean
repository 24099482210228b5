/-
  Package cascadekeep: the walk of Deal: a deal of numbers, always right.
-/
import Derived.Test.YtamdmicdieeolaaDealKM
namespace Go.Proofs.Ytamdmicdieeolaa
open Go.RowKit

/-- The cells of numbers of which a deal is made. -/
def NumT.k (t : NumT) (vl vn vr vt va vb vc : Value) : List Value := [.int .i64 t.yr, .int .i64 t.mo, .int .i64 t.ba, .int .i64 t.fe, .int .i64 t.re, .int .i64 t.ta, .int .i64 t.ad, .int .i64 t.cu, .int .i64 t.t0, .int .i64 t.t1, .int .i64 t.t2, .int .i64 t.t3, .int .i64 t.t4, vl, vn, vr, vt, va, vb, vc]
/-- Numbers of which a deal is made. -/
def DealKIn (w : World) (v : Value) : Prop :=
  ∃ (t : NumT) (vl vn vr vt va vb vc : Value) (zl zn zr zt za zb zc : List Int), v = .agg (t.k vl vn vr vt va vb vc).toArray ∧ Lies 1 intF w vl zl ∧ Lies 1 intF w vn zn ∧ Lies 1 intF w vr zr ∧ Lies 1 intF w vt zt ∧ Lies 1 intF w va za ∧ Lies 1 intF w vb zb ∧ Lies 1 intF w vc zc ∧ zn.length ≤ 4611686018427387904
theorem DealKIn.below {w w' : World} {v : Value} (h : DealKIn w v) (b : Below w.heap.size w w') : DealKIn w' v := by
  obtain ⟨t, vl, vn, vr, vt, va, vb, vc, zl, zn, zr, zt, za, zb, zc, rfl, l0, l1, l2, l3, l4, l5, l6, hsz⟩ := h
  exact ⟨t, vl, vn, vr, vt, va, vb, vc, zl, zn, zr, zt, za, zb, zc, rfl, l0.below b, l1.below b, l2.below b, l3.below b, l4.below b, l5.below b, l6.below b, hsz⟩

/-- A deal's variable, just made. -/
def NewD (N : Nat) (v : Value) (w : World) : Prop := ∃ g, v = .pointer (some ⟨g, 0, none⟩) ∧ N ≤ g ∧ Blk w g 29 zeroD
theorem newD_bears (N : Nat) : Bears (NewD N) := fun _ _ _ ⟨g, e, h, k⟩ b => ⟨g, e, h, k.then b⟩
/-- Within, whatever follows. -/
abbrev WinC (n lo hi X : Int) : Prop := ∀ (w : World) (R : Ending → World → Prop), (∀ w', Below w.heap.size w w' → R (.returned (.int .i64 X)) w') → Calls Try.prog 15 #[.int .i64 n, .int .i64 lo, .int .i64 hi] w R
theorem winC {n lo hi X : Int} (l0 : -4611686018427387904 ≤ lo) (h : lo ≤ hi) (h1 : hi ≤ 4611686018427387903) (d : hi - lo ≤ 4611686018427387903) (e : lo + n % (hi - lo + 1) = X) : WinC n lo hi X := fun w R k => (win_at l0 h h1 d e w).mono (by rintro x w' ⟨rfl, rfl⟩; exact k _ (Below.refl _ _))

set_option maxRecDepth 1000000 in
set_option maxHeartbeats 40000000 in
theorem dealK_any (v : Value) (w : World) (h : DealKIn w v) :
    Calls Try.prog 12 #[v] w fun e w' => ∃ l n a b c d, e = .returned (d.t.v l n a b c) ∧ d.ok = true ∧ DealOwn w.heap.size w' l n a b c d ∧ Below w.heap.size w w' := by
  obtain ⟨t, vl, vn, vr, vt, va, vb, vc, zl, zn, zr, zt, za, zb, zc, rfl, l0, l1, l2, l3, l4, l5, l6, hsz⟩ := h
  obtain ⟨yr, mo, ba, fe, re, ta, ad, cu, t0, t1, t2, t3, t4⟩ := t
  obtain ⟨an, cn, rfl, _, _, _, _⟩ := id l1
  obtain ⟨n1, hn1⟩ : ∃ n, zn.length = n := ⟨_, rfl⟩
  rw [hn1] at l1 hsz ⊢
  have hln := l1.len
  unfold maxLen at hln
  unfold NumT.k
  simp only
  obtain ⟨Ayr, q⟩ : ∃ A, 1990 + yr % (2040 - 1990 + 1) = A := ⟨_, rfl⟩
  have hyr := win_in yr 1990 2040 (by omega)
  rw [q] at hyr
  have Eyr : Hid (WinC yr 1990 2040 Ayr) := winC (by omega) (by omega) (by omega) (by omega) q
  clear q
  obtain ⟨Amo, q⟩ : ∃ A, 1 + mo % (12 - 1 + 1) = A := ⟨_, rfl⟩
  have hmo := win_in mo 1 12 (by omega)
  rw [q] at hmo
  have Emo : Hid (WinC mo 1 12 Amo) := winC (by omega) (by omega) (by omega) (by omega) q
  clear q
  obtain ⟨Aba, q⟩ : ∃ A, 0 + ba % (2 - 0 + 1) = A := ⟨_, rfl⟩
  have hba := win_in ba 0 2 (by omega)
  rw [q] at hba
  have Eba : Hid (WinC ba 0 2 Aba) := winC (by omega) (by omega) (by omega) (by omega) q
  clear q
  obtain ⟨Afe, q⟩ : ∃ A, 0 + fe % (200 - 0 + 1) = A := ⟨_, rfl⟩
  have hfe := win_in fe 0 200 (by omega)
  rw [q] at hfe
  have Efe : Hid (WinC fe 0 200 Afe) := winC (by omega) (by omega) (by omega) (by omega) q
  clear q
  obtain ⟨Are, q⟩ : ∃ A, 0 + re % (5000 - 0 + 1) = A := ⟨_, rfl⟩
  have hre := win_in re 0 5000 (by omega)
  rw [q] at hre
  have Ere : Hid (WinC re 0 5000 Are) := winC (by omega) (by omega) (by omega) (by omega) q
  clear q
  obtain ⟨Ata, q⟩ : ∃ A, 0 + ta % (500 - 0 + 1) = A := ⟨_, rfl⟩
  have hta := win_in ta 0 500 (by omega)
  rw [q] at hta
  have Eta : Hid (WinC ta 0 500 Ata) := winC (by omega) (by omega) (by omega) (by omega) q
  clear q
  obtain ⟨Aad, q⟩ : ∃ A, 0 + ad % (3000 - 0 + 1) = A := ⟨_, rfl⟩
  have had := win_in ad 0 3000 (by omega)
  rw [q] at had
  have Ead : Hid (WinC ad 0 3000 Aad) := winC (by omega) (by omega) (by omega) (by omega) q
  clear q
  obtain ⟨Acu, q⟩ : ∃ A, 0 + cu % (3 - 0 + 1) = A := ⟨_, rfl⟩
  have hcu := win_in cu 0 3 (by omega)
  rw [q] at hcu
  have Ecu : Hid (WinC cu 0 3 Acu) := winC (by omega) (by omega) (by omega) (by omega) q
  clear q
  obtain ⟨At0, q⟩ : ∃ A, 0 + t0 % (12000 - 0 + 1) = A := ⟨_, rfl⟩
  have ht0 := win_in t0 0 12000 (by omega)
  rw [q] at ht0
  have Et0 : Hid (WinC t0 0 12000 At0) := winC (by omega) (by omega) (by omega) (by omega) q
  clear q
  obtain ⟨At1, q⟩ : ∃ A, 0 + t1 % (15000 - 0 + 1) = A := ⟨_, rfl⟩
  have ht1 := win_in t1 0 15000 (by omega)
  rw [q] at ht1
  have Et1 : Hid (WinC t1 0 15000 At1) := winC (by omega) (by omega) (by omega) (by omega) q
  clear q
  obtain ⟨At2, q⟩ : ∃ A, 0 + t2 % (5000 - 0 + 1) = A := ⟨_, rfl⟩
  have ht2 := win_in t2 0 5000 (by omega)
  rw [q] at ht2
  have Et2 : Hid (WinC t2 0 5000 At2) := winC (by omega) (by omega) (by omega) (by omega) q
  clear q
  obtain ⟨At3, q⟩ : ∃ A, 0 + t3 % (5000 - 0 + 1) = A := ⟨_, rfl⟩
  have ht3 := win_in t3 0 5000 (by omega)
  rw [q] at ht3
  have Et3 : Hid (WinC t3 0 5000 At3) := winC (by omega) (by omega) (by omega) (by omega) q
  clear q
  obtain ⟨At4, q⟩ : ∃ A, 0 + t4 % (3000 - 0 + 1) = A := ⟨_, rfl⟩
  have ht4 := win_in t4 0 3000 (by omega)
  rw [q] at ht4
  have Et4 : Hid (WinC t4 0 3000 At4) := winC (by omega) (by omega) (by omega) (by omega) q
  clear q
  have TO : NumT.ok ⟨Ayr, Amo, Aba, Afe, Are, Ata, Aad, Acu, At0, At1, At2, At3, At4⟩ = true := NumT.ok_of ⟨by simp only; omega, by simp only; omega⟩ ⟨by simp only; omega, by simp only; omega⟩ ⟨by simp only; omega, by simp only; omega⟩ ⟨by simp only; omega, by simp only; omega⟩ ⟨by simp only; omega, by simp only; omega⟩ ⟨by simp only; omega, by simp only; omega⟩ ⟨by simp only; omega, by simp only; omega⟩ ⟨by simp only; omega, by simp only; omega⟩ ⟨by simp only; omega, by simp only; omega⟩ ⟨by simp only; omega, by simp only; omega⟩ ⟨by simp only; omega, by simp only; omega⟩ ⟨by simp only; omega, by simp only; omega⟩ ⟨by simp only; omega, by simp only; omega⟩
  clear hyr hmo hba hfe hre hta had hcu ht0 ht1 ht2 ht3 ht4
  go_enter Try.func12, Try.ntmps12
  go_upto_region 1 with fail
  refine wp_letter (fun wx => ∃ KB R, w.heap.size = KB ∧ KB + 1 = R ∧ Blk wx KB 43 (NumT.k ⟨yr, mo, ba, fe, re, ta, ad, cu, t0, t1, t2, t3, t4⟩ vl (.slice an n1 cn) vr vt va vb vc) ∧ Blk wx R 29 zeroD ∧ Below w.heap.size w wx) ⟨_, _, rfl, rfl, (Blk.fresh _ _ (NumT.k ⟨yr, mo, ba, fe, re, ta, ad, cu, t0, t1, t2, t3, t4⟩ vl (.slice an n1 cn) vr vt va vb vc)).alloc _, Blk.fresh2 _ _ _ zeroD, below_alloc (below_alloc (Below.refl _ _) _) _⟩ ?_
  rintro W ⟨KB, R, eK, eR, bK, bR, hW⟩
  rw [eK, eR]
  have cW : ∀ wx, Below W.heap.size W wx → wx.cell? ⟨KB, 0, none⟩ = some (.int .i64 yr) ∧ wx.cell? ⟨KB, 1, none⟩ = some (.int .i64 mo) ∧ wx.cell? ⟨KB, 2, none⟩ = some (.int .i64 ba) ∧ wx.cell? ⟨KB, 3, none⟩ = some (.int .i64 fe) ∧ wx.cell? ⟨KB, 4, none⟩ = some (.int .i64 re) ∧ wx.cell? ⟨KB, 5, none⟩ = some (.int .i64 ta) ∧ wx.cell? ⟨KB, 6, none⟩ = some (.int .i64 ad) ∧ wx.cell? ⟨KB, 7, none⟩ = some (.int .i64 cu) := fun wx bx => ⟨cell_keep bx (bK.cell 0 _ rfl), cell_keep bx (bK.cell 1 _ rfl), cell_keep bx (bK.cell 2 _ rfl), cell_keep bx (bK.cell 3 _ rfl), cell_keep bx (bK.cell 4 _ rfl), cell_keep bx (bK.cell 5 _ rfl), cell_keep bx (bK.cell 6 _ rfl), cell_keep bx (bK.cell 7 _ rfl)⟩
  go_cut [3] (fun p wx => ∃ G, p = .pointer (some ⟨G, 0, none⟩) ∧ W.heap.size ≤ G ∧ Blk wx G 29 (NumT.f ⟨Ayr, Amo, Aba, Afe, Are, Ata, Aad, Acu, 0, 0, 0, 0, 0⟩ nilV nilV nilV nilV nilV) ∧ Below W.heap.size W wx)
  case first =>
    refine wp_region_ps [16, 17, 18, 19, 20, 21, 22, 23, 24, 25, 26, 27, 28, 29, 30, 31, 32, 33, 34, 35, 36, 37, 38, 39, 40, 3] [fun v _ => v = (.pointer (some ⟨KB, 0, none⟩) : Value), fun v _ => v = (.int .i64 yr : Value), fun v _ => v = (.int .i64 Ayr : Value), fun v _ => v = (.pointer (some ⟨KB, 1, none⟩) : Value), fun v _ => v = (.int .i64 mo : Value), fun v _ => v = (.int .i64 Amo : Value), fun v _ => v = (.pointer (some ⟨KB, 2, none⟩) : Value), fun v _ => v = (.int .i64 ba : Value), fun v _ => v = (.int .i64 Aba : Value), fun v _ => v = (.pointer (some ⟨KB, 3, none⟩) : Value), fun v _ => v = (.int .i64 fe : Value), fun v _ => v = (.int .i64 Afe : Value), fun v _ => v = (.pointer (some ⟨KB, 4, none⟩) : Value), fun v _ => v = (.int .i64 re : Value), fun v _ => v = (.int .i64 Are : Value), fun v _ => v = (.pointer (some ⟨KB, 5, none⟩) : Value), fun v _ => v = (.int .i64 ta : Value), fun v _ => v = (.int .i64 Ata : Value), fun v _ => v = (.pointer (some ⟨KB, 6, none⟩) : Value), fun v _ => v = (.int .i64 ad : Value), fun v _ => v = (.int .i64 Aad : Value), fun v _ => v = (.pointer (some ⟨KB, 7, none⟩) : Value), fun v _ => v = (.int .i64 cu : Value), fun v _ => v = (.int .i64 Acu : Value), fun v _ => v = (.agg #[.int .i64 Ayr, .int .i64 Amo, .int .i64 Aba, .slice none 0 0, .slice none 0 0, .int .i64 Afe, .int .i64 Are, .int .i64 Ata, .int .i64 Aad, .int .i64 Acu, .int .i64 0, .int .i64 0, .int .i64 0, .int .i64 0, .int .i64 0, .slice none 0 0, .slice none 0 0, .slice none 0 0] : Value), NewD W.heap.size] [] [0, 1, 2, 3, 4, 5, 6, 7, 8, 9, 10, 11, 12, 13, 14, 15, 16, 17, 18, 19, 20, 21, 22, 23, 24, 25] #[true, true, true, true, true, true, true, true, true, true, true, true, true, true, true, true, true, true, true, true, true, true, true, true, true, true, false] 1 (by kernel_rfl) (by kernel_rfl) (by kernel_rfl) (by kernel_rfl) ?_ ?_ ?_
    · intro p hp
      simp only [List.mem_cons, List.not_mem_nil, or_false] at hp
      rcases hp with rfl | rfl | rfl | rfl | rfl | rfl | rfl | rfl | rfl | rfl | rfl | rfl | rfl | rfl | rfl | rfl | rfl | rfl | rfl | rfl | rfl | rfl | rfl | rfl | rfl | rfl <;> first | exact bears_is _ | exact newD_bears _
    · have bD : Below W.heap.size W W.drew := (Below.refl _ _).drew
      refine StepsF.cons rfl rfl (fun x wx hB hF K hK => ?_) ?_
      · simp only [acts, Act.put, List.getD_cons_zero, List.getD_cons_succ, List.setIfInBounds_toArray, List.set_cons_zero, List.set_cons_succ]
        go_simp
        refine hK.out _ _ (after_mk (.pointer (some ⟨KB, 0, none⟩) : Value) ?_ (Below.refl _ _) rfl (fun h => absurd h (by decide)))
        simp only [acts, Act.put, List.getD_cons_zero, List.getD_cons_succ, List.setIfInBounds_toArray, List.set_cons_zero, List.set_cons_succ]
      refine StepsF.cons rfl rfl (fun x wx hB hF K hK => ?_) ?_
      · have f0 : x 0 = (.pointer (some ⟨KB, 0, none⟩) : Value) := hF 0 (by decide) (by kernel_rfl)
        have q1 : Below W.heap.size W wx := below_then bD hB
        have q2 := cW wx q1; have p0 := q2.1; have p1 := q2.2.1; have p2 := q2.2.2.1; have p3 := q2.2.2.2.1; have p4 := q2.2.2.2.2.1; have p5 := q2.2.2.2.2.2.1; have p6 := q2.2.2.2.2.2.2.1; have p7 := q2.2.2.2.2.2.2.2; clear q2
        simp only [acts, Act.put, List.getD_cons_zero, List.getD_cons_succ, List.setIfInBounds_toArray, List.set_cons_zero, List.set_cons_succ]
        go_simp
        refine hK.out _ _ (after_mk (.int .i64 yr : Value) ?_ (Below.refl _ _) rfl (fun h => absurd h (by decide)))
        simp only [acts, Act.put, List.getD_cons_zero, List.getD_cons_succ, List.setIfInBounds_toArray, List.set_cons_zero, List.set_cons_succ]
        try simp only [f0]
      refine StepsF.cons rfl rfl (fun x wx hB hF K hK => ?_) ?_
      · have f1 : x 1 = (.int .i64 yr : Value) := hF 1 (by decide) (by kernel_rfl)
        have q1 : Below W.heap.size W wx := below_then bD hB
        simp only [acts, Act.put, List.getD_cons_zero, List.getD_cons_succ, List.setIfInBounds_toArray, List.set_cons_zero, List.set_cons_succ]
        go_simp
        try simp only [f1]
        with_reducible refine Eyr.out _ _ (fun wy hb => ?_)
        refine hK.out _ _ (after_mk (.int .i64 Ayr : Value) ?_ hb rfl (fun h => absurd h (by decide)))
        simp only [acts, Act.put, List.getD_cons_zero, List.getD_cons_succ, List.setIfInBounds_toArray, List.set_cons_zero, List.set_cons_succ]
        try simp only [f1]
      refine StepsF.cons rfl rfl (fun x wx hB hF K hK => ?_) ?_
      · simp only [acts, Act.put, List.getD_cons_zero, List.getD_cons_succ, List.setIfInBounds_toArray, List.set_cons_zero, List.set_cons_succ]
        go_simp
        refine hK.out _ _ (after_mk (.pointer (some ⟨KB, 1, none⟩) : Value) ?_ (Below.refl _ _) rfl (fun h => absurd h (by decide)))
        simp only [acts, Act.put, List.getD_cons_zero, List.getD_cons_succ, List.setIfInBounds_toArray, List.set_cons_zero, List.set_cons_succ]
      refine StepsF.cons rfl rfl (fun x wx hB hF K hK => ?_) ?_
      · have f3 : x 3 = (.pointer (some ⟨KB, 1, none⟩) : Value) := hF 3 (by decide) (by kernel_rfl)
        have q1 : Below W.heap.size W wx := below_then bD hB
        have q2 := cW wx q1; have p0 := q2.1; have p1 := q2.2.1; have p2 := q2.2.2.1; have p3 := q2.2.2.2.1; have p4 := q2.2.2.2.2.1; have p5 := q2.2.2.2.2.2.1; have p6 := q2.2.2.2.2.2.2.1; have p7 := q2.2.2.2.2.2.2.2; clear q2
        simp only [acts, Act.put, List.getD_cons_zero, List.getD_cons_succ, List.setIfInBounds_toArray, List.set_cons_zero, List.set_cons_succ]
        go_simp
        refine hK.out _ _ (after_mk (.int .i64 mo : Value) ?_ (Below.refl _ _) rfl (fun h => absurd h (by decide)))
        simp only [acts, Act.put, List.getD_cons_zero, List.getD_cons_succ, List.setIfInBounds_toArray, List.set_cons_zero, List.set_cons_succ]
        try simp only [f3]
      refine StepsF.cons rfl rfl (fun x wx hB hF K hK => ?_) ?_
      · have f4 : x 4 = (.int .i64 mo : Value) := hF 4 (by decide) (by kernel_rfl)
        have q1 : Below W.heap.size W wx := below_then bD hB
        simp only [acts, Act.put, List.getD_cons_zero, List.getD_cons_succ, List.setIfInBounds_toArray, List.set_cons_zero, List.set_cons_succ]
        go_simp
        try simp only [f4]
        with_reducible refine Emo.out _ _ (fun wy hb => ?_)
        refine hK.out _ _ (after_mk (.int .i64 Amo : Value) ?_ hb rfl (fun h => absurd h (by decide)))
        simp only [acts, Act.put, List.getD_cons_zero, List.getD_cons_succ, List.setIfInBounds_toArray, List.set_cons_zero, List.set_cons_succ]
        try simp only [f4]
      refine StepsF.cons rfl rfl (fun x wx hB hF K hK => ?_) ?_
      · simp only [acts, Act.put, List.getD_cons_zero, List.getD_cons_succ, List.setIfInBounds_toArray, List.set_cons_zero, List.set_cons_succ]
        go_simp
        refine hK.out _ _ (after_mk (.pointer (some ⟨KB, 2, none⟩) : Value) ?_ (Below.refl _ _) rfl (fun h => absurd h (by decide)))
        simp only [acts, Act.put, List.getD_cons_zero, List.getD_cons_succ, List.setIfInBounds_toArray, List.set_cons_zero, List.set_cons_succ]
      refine StepsF.cons rfl rfl (fun x wx hB hF K hK => ?_) ?_
      · have f6 : x 6 = (.pointer (some ⟨KB, 2, none⟩) : Value) := hF 6 (by decide) (by kernel_rfl)
        have q1 : Below W.heap.size W wx := below_then bD hB
        have q2 := cW wx q1; have p0 := q2.1; have p1 := q2.2.1; have p2 := q2.2.2.1; have p3 := q2.2.2.2.1; have p4 := q2.2.2.2.2.1; have p5 := q2.2.2.2.2.2.1; have p6 := q2.2.2.2.2.2.2.1; have p7 := q2.2.2.2.2.2.2.2; clear q2
        simp only [acts, Act.put, List.getD_cons_zero, List.getD_cons_succ, List.setIfInBounds_toArray, List.set_cons_zero, List.set_cons_succ]
        go_simp
        refine hK.out _ _ (after_mk (.int .i64 ba : Value) ?_ (Below.refl _ _) rfl (fun h => absurd h (by decide)))
        simp only [acts, Act.put, List.getD_cons_zero, List.getD_cons_succ, List.setIfInBounds_toArray, List.set_cons_zero, List.set_cons_succ]
        try simp only [f6]
      refine StepsF.cons rfl rfl (fun x wx hB hF K hK => ?_) ?_
      · have f7 : x 7 = (.int .i64 ba : Value) := hF 7 (by decide) (by kernel_rfl)
        have q1 : Below W.heap.size W wx := below_then bD hB
        simp only [acts, Act.put, List.getD_cons_zero, List.getD_cons_succ, List.setIfInBounds_toArray, List.set_cons_zero, List.set_cons_succ]
        go_simp
        try simp only [f7]
        with_reducible refine Eba.out _ _ (fun wy hb => ?_)
        refine hK.out _ _ (after_mk (.int .i64 Aba : Value) ?_ hb rfl (fun h => absurd h (by decide)))
        simp only [acts, Act.put, List.getD_cons_zero, List.getD_cons_succ, List.setIfInBounds_toArray, List.set_cons_zero, List.set_cons_succ]
        try simp only [f7]
      refine StepsF.cons rfl rfl (fun x wx hB hF K hK => ?_) ?_
      · simp only [acts, Act.put, List.getD_cons_zero, List.getD_cons_succ, List.setIfInBounds_toArray, List.set_cons_zero, List.set_cons_succ]
        go_simp
        refine hK.out _ _ (after_mk (.pointer (some ⟨KB, 3, none⟩) : Value) ?_ (Below.refl _ _) rfl (fun h => absurd h (by decide)))
        simp only [acts, Act.put, List.getD_cons_zero, List.getD_cons_succ, List.setIfInBounds_toArray, List.set_cons_zero, List.set_cons_succ]
      refine StepsF.cons rfl rfl (fun x wx hB hF K hK => ?_) ?_
      · have f9 : x 9 = (.pointer (some ⟨KB, 3, none⟩) : Value) := hF 9 (by decide) (by kernel_rfl)
        have q1 : Below W.heap.size W wx := below_then bD hB
        have q2 := cW wx q1; have p0 := q2.1; have p1 := q2.2.1; have p2 := q2.2.2.1; have p3 := q2.2.2.2.1; have p4 := q2.2.2.2.2.1; have p5 := q2.2.2.2.2.2.1; have p6 := q2.2.2.2.2.2.2.1; have p7 := q2.2.2.2.2.2.2.2; clear q2
        simp only [acts, Act.put, List.getD_cons_zero, List.getD_cons_succ, List.setIfInBounds_toArray, List.set_cons_zero, List.set_cons_succ]
        go_simp
        refine hK.out _ _ (after_mk (.int .i64 fe : Value) ?_ (Below.refl _ _) rfl (fun h => absurd h (by decide)))
        simp only [acts, Act.put, List.getD_cons_zero, List.getD_cons_succ, List.setIfInBounds_toArray, List.set_cons_zero, List.set_cons_succ]
        try simp only [f9]
      refine StepsF.cons rfl rfl (fun x wx hB hF K hK => ?_) ?_
      · have f10 : x 10 = (.int .i64 fe : Value) := hF 10 (by decide) (by kernel_rfl)
        have q1 : Below W.heap.size W wx := below_then bD hB
        simp only [acts, Act.put, List.getD_cons_zero, List.getD_cons_succ, List.setIfInBounds_toArray, List.set_cons_zero, List.set_cons_succ]
        go_simp
        try simp only [f10]
        with_reducible refine Efe.out _ _ (fun wy hb => ?_)
        refine hK.out _ _ (after_mk (.int .i64 Afe : Value) ?_ hb rfl (fun h => absurd h (by decide)))
        simp only [acts, Act.put, List.getD_cons_zero, List.getD_cons_succ, List.setIfInBounds_toArray, List.set_cons_zero, List.set_cons_succ]
        try simp only [f10]
      refine StepsF.cons rfl rfl (fun x wx hB hF K hK => ?_) ?_
      · simp only [acts, Act.put, List.getD_cons_zero, List.getD_cons_succ, List.setIfInBounds_toArray, List.set_cons_zero, List.set_cons_succ]
        go_simp
        refine hK.out _ _ (after_mk (.pointer (some ⟨KB, 4, none⟩) : Value) ?_ (Below.refl _ _) rfl (fun h => absurd h (by decide)))
        simp only [acts, Act.put, List.getD_cons_zero, List.getD_cons_succ, List.setIfInBounds_toArray, List.set_cons_zero, List.set_cons_succ]
      refine StepsF.cons rfl rfl (fun x wx hB hF K hK => ?_) ?_
      · have f12 : x 12 = (.pointer (some ⟨KB, 4, none⟩) : Value) := hF 12 (by decide) (by kernel_rfl)
        have q1 : Below W.heap.size W wx := below_then bD hB
        have q2 := cW wx q1; have p0 := q2.1; have p1 := q2.2.1; have p2 := q2.2.2.1; have p3 := q2.2.2.2.1; have p4 := q2.2.2.2.2.1; have p5 := q2.2.2.2.2.2.1; have p6 := q2.2.2.2.2.2.2.1; have p7 := q2.2.2.2.2.2.2.2; clear q2
        simp only [acts, Act.put, List.getD_cons_zero, List.getD_cons_succ, List.setIfInBounds_toArray, List.set_cons_zero, List.set_cons_succ]
        go_simp
        refine hK.out _ _ (after_mk (.int .i64 re : Value) ?_ (Below.refl _ _) rfl (fun h => absurd h (by decide)))
        simp only [acts, Act.put, List.getD_cons_zero, List.getD_cons_succ, List.setIfInBounds_toArray, List.set_cons_zero, List.set_cons_succ]
        try simp only [f12]
      refine StepsF.cons rfl rfl (fun x wx hB hF K hK => ?_) ?_
      · have f13 : x 13 = (.int .i64 re : Value) := hF 13 (by decide) (by kernel_rfl)
        have q1 : Below W.heap.size W wx := below_then bD hB
        simp only [acts, Act.put, List.getD_cons_zero, List.getD_cons_succ, List.setIfInBounds_toArray, List.set_cons_zero, List.set_cons_succ]
        go_simp
        try simp only [f13]
        with_reducible refine Ere.out _ _ (fun wy hb => ?_)
        refine hK.out _ _ (after_mk (.int .i64 Are : Value) ?_ hb rfl (fun h => absurd h (by decide)))
        simp only [acts, Act.put, List.getD_cons_zero, List.getD_cons_succ, List.setIfInBounds_toArray, List.set_cons_zero, List.set_cons_succ]
        try simp only [f13]
      refine StepsF.cons rfl rfl (fun x wx hB hF K hK => ?_) ?_
      · simp only [acts, Act.put, List.getD_cons_zero, List.getD_cons_succ, List.setIfInBounds_toArray, List.set_cons_zero, List.set_cons_succ]
        go_simp
        refine hK.out _ _ (after_mk (.pointer (some ⟨KB, 5, none⟩) : Value) ?_ (Below.refl _ _) rfl (fun h => absurd h (by decide)))
        simp only [acts, Act.put, List.getD_cons_zero, List.getD_cons_succ, List.setIfInBounds_toArray, List.set_cons_zero, List.set_cons_succ]
      refine StepsF.cons rfl rfl (fun x wx hB hF K hK => ?_) ?_
      · have f15 : x 15 = (.pointer (some ⟨KB, 5, none⟩) : Value) := hF 15 (by decide) (by kernel_rfl)
        have q1 : Below W.heap.size W wx := below_then bD hB
        have q2 := cW wx q1; have p0 := q2.1; have p1 := q2.2.1; have p2 := q2.2.2.1; have p3 := q2.2.2.2.1; have p4 := q2.2.2.2.2.1; have p5 := q2.2.2.2.2.2.1; have p6 := q2.2.2.2.2.2.2.1; have p7 := q2.2.2.2.2.2.2.2; clear q2
        simp only [acts, Act.put, List.getD_cons_zero, List.getD_cons_succ, List.setIfInBounds_toArray, List.set_cons_zero, List.set_cons_succ]
        go_simp
        refine hK.out _ _ (after_mk (.int .i64 ta : Value) ?_ (Below.refl _ _) rfl (fun h => absurd h (by decide)))
        simp only [acts, Act.put, List.getD_cons_zero, List.getD_cons_succ, List.setIfInBounds_toArray, List.set_cons_zero, List.set_cons_succ]
        try simp only [f15]
      refine StepsF.cons rfl rfl (fun x wx hB hF K hK => ?_) ?_
      · have f16 : x 16 = (.int .i64 ta : Value) := hF 16 (by decide) (by kernel_rfl)
        have q1 : Below W.heap.size W wx := below_then bD hB
        simp only [acts, Act.put, List.getD_cons_zero, List.getD_cons_succ, List.setIfInBounds_toArray, List.set_cons_zero, List.set_cons_succ]
        go_simp
        try simp only [f16]
        with_reducible refine Eta.out _ _ (fun wy hb => ?_)
        refine hK.out _ _ (after_mk (.int .i64 Ata : Value) ?_ hb rfl (fun h => absurd h (by decide)))
        simp only [acts, Act.put, List.getD_cons_zero, List.getD_cons_succ, List.setIfInBounds_toArray, List.set_cons_zero, List.set_cons_succ]
        try simp only [f16]
      refine StepsF.cons rfl rfl (fun x wx hB hF K hK => ?_) ?_
      · simp only [acts, Act.put, List.getD_cons_zero, List.getD_cons_succ, List.setIfInBounds_toArray, List.set_cons_zero, List.set_cons_succ]
        go_simp
        refine hK.out _ _ (after_mk (.pointer (some ⟨KB, 6, none⟩) : Value) ?_ (Below.refl _ _) rfl (fun h => absurd h (by decide)))
        simp only [acts, Act.put, List.getD_cons_zero, List.getD_cons_succ, List.setIfInBounds_toArray, List.set_cons_zero, List.set_cons_succ]
      refine StepsF.cons rfl rfl (fun x wx hB hF K hK => ?_) ?_
      · have f18 : x 18 = (.pointer (some ⟨KB, 6, none⟩) : Value) := hF 18 (by decide) (by kernel_rfl)
        have q1 : Below W.heap.size W wx := below_then bD hB
        have q2 := cW wx q1; have p0 := q2.1; have p1 := q2.2.1; have p2 := q2.2.2.1; have p3 := q2.2.2.2.1; have p4 := q2.2.2.2.2.1; have p5 := q2.2.2.2.2.2.1; have p6 := q2.2.2.2.2.2.2.1; have p7 := q2.2.2.2.2.2.2.2; clear q2
        simp only [acts, Act.put, List.getD_cons_zero, List.getD_cons_succ, List.setIfInBounds_toArray, List.set_cons_zero, List.set_cons_succ]
        go_simp
        refine hK.out _ _ (after_mk (.int .i64 ad : Value) ?_ (Below.refl _ _) rfl (fun h => absurd h (by decide)))
        simp only [acts, Act.put, List.getD_cons_zero, List.getD_cons_succ, List.setIfInBounds_toArray, List.set_cons_zero, List.set_cons_succ]
        try simp only [f18]
      refine StepsF.cons rfl rfl (fun x wx hB hF K hK => ?_) ?_
      · have f19 : x 19 = (.int .i64 ad : Value) := hF 19 (by decide) (by kernel_rfl)
        have q1 : Below W.heap.size W wx := below_then bD hB
        simp only [acts, Act.put, List.getD_cons_zero, List.getD_cons_succ, List.setIfInBounds_toArray, List.set_cons_zero, List.set_cons_succ]
        go_simp
        try simp only [f19]
        with_reducible refine Ead.out _ _ (fun wy hb => ?_)
        refine hK.out _ _ (after_mk (.int .i64 Aad : Value) ?_ hb rfl (fun h => absurd h (by decide)))
        simp only [acts, Act.put, List.getD_cons_zero, List.getD_cons_succ, List.setIfInBounds_toArray, List.set_cons_zero, List.set_cons_succ]
        try simp only [f19]
      refine StepsF.cons rfl rfl (fun x wx hB hF K hK => ?_) ?_
      · simp only [acts, Act.put, List.getD_cons_zero, List.getD_cons_succ, List.setIfInBounds_toArray, List.set_cons_zero, List.set_cons_succ]
        go_simp
        refine hK.out _ _ (after_mk (.pointer (some ⟨KB, 7, none⟩) : Value) ?_ (Below.refl _ _) rfl (fun h => absurd h (by decide)))
        simp only [acts, Act.put, List.getD_cons_zero, List.getD_cons_succ, List.setIfInBounds_toArray, List.set_cons_zero, List.set_cons_succ]
      refine StepsF.cons rfl rfl (fun x wx hB hF K hK => ?_) ?_
      · have f21 : x 21 = (.pointer (some ⟨KB, 7, none⟩) : Value) := hF 21 (by decide) (by kernel_rfl)
        have q1 : Below W.heap.size W wx := below_then bD hB
        have q2 := cW wx q1; have p0 := q2.1; have p1 := q2.2.1; have p2 := q2.2.2.1; have p3 := q2.2.2.2.1; have p4 := q2.2.2.2.2.1; have p5 := q2.2.2.2.2.2.1; have p6 := q2.2.2.2.2.2.2.1; have p7 := q2.2.2.2.2.2.2.2; clear q2
        simp only [acts, Act.put, List.getD_cons_zero, List.getD_cons_succ, List.setIfInBounds_toArray, List.set_cons_zero, List.set_cons_succ]
        go_simp
        refine hK.out _ _ (after_mk (.int .i64 cu : Value) ?_ (Below.refl _ _) rfl (fun h => absurd h (by decide)))
        simp only [acts, Act.put, List.getD_cons_zero, List.getD_cons_succ, List.setIfInBounds_toArray, List.set_cons_zero, List.set_cons_succ]
        try simp only [f21]
      refine StepsF.cons rfl rfl (fun x wx hB hF K hK => ?_) ?_
      · have f22 : x 22 = (.int .i64 cu : Value) := hF 22 (by decide) (by kernel_rfl)
        have q1 : Below W.heap.size W wx := below_then bD hB
        simp only [acts, Act.put, List.getD_cons_zero, List.getD_cons_succ, List.setIfInBounds_toArray, List.set_cons_zero, List.set_cons_succ]
        go_simp
        try simp only [f22]
        with_reducible refine Ecu.out _ _ (fun wy hb => ?_)
        refine hK.out _ _ (after_mk (.int .i64 Acu : Value) ?_ hb rfl (fun h => absurd h (by decide)))
        simp only [acts, Act.put, List.getD_cons_zero, List.getD_cons_succ, List.setIfInBounds_toArray, List.set_cons_zero, List.set_cons_succ]
        try simp only [f22]
      refine StepsF.cons rfl rfl (fun x wx hB hF K hK => ?_) ?_
      · have f2 : x 2 = (.int .i64 Ayr : Value) := hF 2 (by decide) (by kernel_rfl)
        have f5 : x 5 = (.int .i64 Amo : Value) := hF 5 (by decide) (by kernel_rfl)
        have f8 : x 8 = (.int .i64 Aba : Value) := hF 8 (by decide) (by kernel_rfl)
        have f11 : x 11 = (.int .i64 Afe : Value) := hF 11 (by decide) (by kernel_rfl)
        have f14 : x 14 = (.int .i64 Are : Value) := hF 14 (by decide) (by kernel_rfl)
        have f17 : x 17 = (.int .i64 Ata : Value) := hF 17 (by decide) (by kernel_rfl)
        have f20 : x 20 = (.int .i64 Aad : Value) := hF 20 (by decide) (by kernel_rfl)
        have f23 : x 23 = (.int .i64 Acu : Value) := hF 23 (by decide) (by kernel_rfl)
        simp only [acts, Act.put, List.getD_cons_zero, List.getD_cons_succ, List.setIfInBounds_toArray, List.set_cons_zero, List.set_cons_succ]
        go_simp
        refine hK.out _ _ (after_mk (.agg #[.int .i64 Ayr, .int .i64 Amo, .int .i64 Aba, .slice none 0 0, .slice none 0 0, .int .i64 Afe, .int .i64 Are, .int .i64 Ata, .int .i64 Aad, .int .i64 Acu, .int .i64 0, .int .i64 0, .int .i64 0, .int .i64 0, .int .i64 0, .slice none 0 0, .slice none 0 0, .slice none 0 0] : Value) ?_ (Below.refl _ _) rfl (fun h => absurd h (by decide)))
        simp only [acts, Act.put, List.getD_cons_zero, List.getD_cons_succ, List.setIfInBounds_toArray, List.set_cons_zero, List.set_cons_succ]
        try simp only [f2, f5, f8, f11, f14, f17, f20, f23]
      refine StepsF.cons rfl rfl (fun x wx hB hF K hK => ?_) ?_
      · have q1 : Below W.heap.size W wx := below_then bD hB
        simp only [acts, Act.put, List.getD_cons_zero, List.getD_cons_succ, List.setIfInBounds_toArray, List.set_cons_zero, List.set_cons_succ]
        go_simp
        refine hK.out _ _ (after_mk _ ?_ (below_alloc (Below.refl _ _) _) (⟨_, rfl, q1.size, Blk.fresh _ _ zeroD⟩ : NewD W.heap.size _ _) (fun h => absurd h (by decide)))
        simp only [acts, Act.put, List.getD_cons_zero, List.getD_cons_succ, List.setIfInBounds_toArray, List.set_cons_zero, List.set_cons_succ]
      exact StepsF.nil
    · intro x wx hB hF hne fuel
      have q1 : Below W.heap.size W wx := below_then (Below.refl _ _).drew hB
      have v0 : x 0 = (.pointer (some ⟨KB, 0, none⟩) : Value) := hF 0 (by decide)
      have v1 : x 1 = (.int .i64 yr : Value) := hF 1 (by decide)
      have v2 : x 2 = (.int .i64 Ayr : Value) := hF 2 (by decide)
      have v3 : x 3 = (.pointer (some ⟨KB, 1, none⟩) : Value) := hF 3 (by decide)
      have v4 : x 4 = (.int .i64 mo : Value) := hF 4 (by decide)
      have v5 : x 5 = (.int .i64 Amo : Value) := hF 5 (by decide)
      have v6 : x 6 = (.pointer (some ⟨KB, 2, none⟩) : Value) := hF 6 (by decide)
      have v7 : x 7 = (.int .i64 ba : Value) := hF 7 (by decide)
      have v8 : x 8 = (.int .i64 Aba : Value) := hF 8 (by decide)
      have v9 : x 9 = (.pointer (some ⟨KB, 3, none⟩) : Value) := hF 9 (by decide)
      have v10 : x 10 = (.int .i64 fe : Value) := hF 10 (by decide)
      have v11 : x 11 = (.int .i64 Afe : Value) := hF 11 (by decide)
      have v12 : x 12 = (.pointer (some ⟨KB, 4, none⟩) : Value) := hF 12 (by decide)
      have v13 : x 13 = (.int .i64 re : Value) := hF 13 (by decide)
      have v14 : x 14 = (.int .i64 Are : Value) := hF 14 (by decide)
      have v15 : x 15 = (.pointer (some ⟨KB, 5, none⟩) : Value) := hF 15 (by decide)
      have v16 : x 16 = (.int .i64 ta : Value) := hF 16 (by decide)
      have v17 : x 17 = (.int .i64 Ata : Value) := hF 17 (by decide)
      have v18 : x 18 = (.pointer (some ⟨KB, 6, none⟩) : Value) := hF 18 (by decide)
      have v19 : x 19 = (.int .i64 ad : Value) := hF 19 (by decide)
      have v20 : x 20 = (.int .i64 Aad : Value) := hF 20 (by decide)
      have v21 : x 21 = (.pointer (some ⟨KB, 7, none⟩) : Value) := hF 21 (by decide)
      have v22 : x 22 = (.int .i64 cu : Value) := hF 22 (by decide)
      have v23 : x 23 = (.int .i64 Acu : Value) := hF 23 (by decide)
      have v24 : x 24 = (.agg #[.int .i64 Ayr, .int .i64 Amo, .int .i64 Aba, .slice none 0 0, .slice none 0 0, .int .i64 Afe, .int .i64 Are, .int .i64 Ata, .int .i64 Aad, .int .i64 Acu, .int .i64 0, .int .i64 0, .int .i64 0, .int .i64 0, .int .i64 0, .slice none 0 0, .slice none 0 0, .slice none 0 0] : Value) := hF 24 (by decide)
      have k3 := hF 25 (by decide)
      refine Exists.elim k3 (fun g3 j3 => ?_)
      clear hB hF hne
      simp only [acts, Act.put, List.getD_cons_zero, List.getD_cons_succ, List.setIfInBounds_toArray, List.set_cons_zero, List.set_cons_succ]
      rw [v0, v1, v2, v3, v4, v5, v6, v7, v8, v9, v10, v11, v12, v13, v14, v15, v16, v17, v18, v19, v20, v21, v22, v23, v24, j3.1]
      clear v0 v1 v2 v3 v4 v5 v6 v7 v8 v9 v10 v11 v12 v13 v14 v15 v16 v17 v18 v19 v20 v21 v22 v23 v24
      refine wpAny_ready (rs := [26]) (by kernel_rfl) (by simp) ?_
      refine AllReady.cons rfl (fun K hK => ?_) AllReady.nil
      rw [if_pos (by rfl)]
      refine wp_store_mid 29 (.tmp 3) (.tmp 40) rfl g3 0 #[.int .i64 Ayr, .int .i64 Amo, .int .i64 Aba, .slice none 0 0, .slice none 0 0, .int .i64 Afe, .int .i64 Are, .int .i64 Ata, .int .i64 Aad, .int .i64 Acu, .int .i64 0, .int .i64 0, .int .i64 0, .int .i64 0, .int .i64 0, .slice none 0 0, .slice none 0 0, .slice none 0 0] rfl rfl (j3.2.2.there 0 18 (by decide)) Try.size_deal (all_oneCell_toArray (cs := NumT.f ⟨Ayr, Amo, Aba, Afe, Are, Ata, Aad, Acu, 0, 0, 0, 0, 0⟩ nilV nilV nilV nilV nilV) (NumT.one _ rfl rfl rfl rfl rfl)) ?_
      refine hK _ _ ?_
      clear hK K
      refine wpAny_letter (fun wz => Below W.heap.size W wz ∧ Blk wz g3 29 (NumT.f ⟨Ayr, Amo, Aba, Afe, Are, Ata, Aad, Acu, 0, 0, 0, 0, 0⟩ nilV nilV nilV nilV nilV)) ⟨(Rest.setCells g3 _ 0 wx).below q1 j3.2.1 q1.size, j3.2.2.over rfl⟩ ?_
      intro wz hz
      refine wpAny_done (by kernel_rfl) ?_ _
      go_wp2_with fail
      go_meet
      case rel => exact ⟨g3, rfl, j3.2.1, hz.2, hz.1⟩
  case rest =>
  obtain ⟨G, rfl, lG, bG, hX⟩ := hcut
  have lKW := bK.lt
  have lRW := bR.lt
  replace bK := bK.then hX
  replace bR := bR.then hX
  have hGK : R < G := by omega

  have cX : ∀ wx, Below wc.heap.size wc wx → wx.cell? ⟨KB, 8, none⟩ = some (.int .i64 t0) ∧ wx.cell? ⟨KB, 9, none⟩ = some (.int .i64 t1) ∧ wx.cell? ⟨KB, 10, none⟩ = some (.int .i64 t2) ∧ wx.cell? ⟨KB, 11, none⟩ = some (.int .i64 t3) ∧ wx.cell? ⟨KB, 12, none⟩ = some (.int .i64 t4) := fun wx bx => ⟨cell_keep bx (bK.cell 8 _ rfl), cell_keep bx (bK.cell 9 _ rfl), cell_keep bx (bK.cell 10 _ rfl), cell_keep bx (bK.cell 11 _ rfl), cell_keep bx (bK.cell 12 _ rfl)⟩
  have hXW := below_then hW hX
  clear cW hW hX lKW lRW lG
  go_upto_region 2 with fail
  obtain ⟨X, hWX⟩ : ∃ X, X = wc := ⟨_, rfl⟩
  subst hWX
  go_cut [60] (fun p wx => Blk wx G 29 (NumT.f ⟨Ayr, Amo, Aba, Afe, Are, Ata, Aad, Acu, At0, At1, At2, At3, At4⟩ nilV nilV nilV nilV nilV) ∧ Rest G X wx)
  case first =>
    refine wp_region_ps [41, 42, 43, 44, 45, 46, 47, 48, 49, 50, 51, 52, 53, 54, 55, 56, 57, 58, 59, 60, 61, 62] [fun v _ => v = (.pointer (some ⟨KB, 8, none⟩) : Value), fun v _ => v = (.pointer (some ⟨KB, 8, none⟩) : Value), fun v _ => v = (.int .i64 t0 : Value), fun v _ => v = (.int .i64 At0 : Value), fun v _ => v = (.pointer (some ⟨KB, 8, none⟩) : Value), fun v _ => v = (.pointer (some ⟨KB, 9, none⟩) : Value), fun v _ => v = (.int .i64 t1 : Value), fun v _ => v = (.int .i64 At1 : Value), fun v _ => v = (.pointer (some ⟨KB, 8, none⟩) : Value), fun v _ => v = (.pointer (some ⟨KB, 10, none⟩) : Value), fun v _ => v = (.int .i64 t2 : Value), fun v _ => v = (.int .i64 At2 : Value), fun v _ => v = (.pointer (some ⟨KB, 8, none⟩) : Value), fun v _ => v = (.pointer (some ⟨KB, 11, none⟩) : Value), fun v _ => v = (.int .i64 t3 : Value), fun v _ => v = (.int .i64 At3 : Value), fun v _ => v = (.pointer (some ⟨KB, 8, none⟩) : Value), fun v _ => v = (.pointer (some ⟨KB, 12, none⟩) : Value), fun v _ => v = (.int .i64 t4 : Value), fun v _ => v = (.int .i64 At4 : Value), fun v _ => v = (.agg #[.int .i64 At0, .int .i64 At1, .int .i64 At2, .int .i64 At3, .int .i64 At4] : Value), fun v _ => v = (.pointer (some ⟨G, 10, none⟩) : Value)] [] [0, 1, 2, 3, 4, 5, 6, 7, 8, 9, 10, 11, 12, 13, 14, 15, 16, 17, 18, 19, 20, 21] #[true, true, true, true, true, true, true, true, true, true, true, true, true, true, true, true, true, true, true, true, true, true, false] 1 (by kernel_rfl) (by kernel_rfl) (by kernel_rfl) (by kernel_rfl) ?_ ?_ ?_
    · intro p hp
      simp only [List.mem_cons, List.not_mem_nil, or_false] at hp
      rcases hp with rfl | rfl | rfl | rfl | rfl | rfl | rfl | rfl | rfl | rfl | rfl | rfl | rfl | rfl | rfl | rfl | rfl | rfl | rfl | rfl | rfl | rfl <;> first | exact bears_is _
    · have bD : Below X.heap.size X X.drew := (Below.refl _ _).drew
      refine StepsF.cons rfl rfl (fun x wx hB hF K hK => ?_) ?_
      · simp only [acts, Act.put, List.getD_cons_zero, List.getD_cons_succ, List.setIfInBounds_toArray, List.set_cons_zero, List.set_cons_succ]
        go_simp
        refine hK.out _ _ (after_mk (.pointer (some ⟨KB, 8, none⟩) : Value) ?_ (Below.refl _ _) rfl (fun h => absurd h (by decide)))
        simp only [acts, Act.put, List.getD_cons_zero, List.getD_cons_succ, List.setIfInBounds_toArray, List.set_cons_zero, List.set_cons_succ]
      refine StepsF.cons rfl rfl (fun x wx hB hF K hK => ?_) ?_
      · have f0 : x 0 = (.pointer (some ⟨KB, 8, none⟩) : Value) := hF 0 (by decide) (by kernel_rfl)
        simp only [acts, Act.put, List.getD_cons_zero, List.getD_cons_succ, List.setIfInBounds_toArray, List.set_cons_zero, List.set_cons_succ]
        go_simp
        refine hK.out _ _ (after_mk (.pointer (some ⟨KB, 8, none⟩) : Value) ?_ (Below.refl _ _) rfl (fun h => absurd h (by decide)))
        simp only [acts, Act.put, List.getD_cons_zero, List.getD_cons_succ, List.setIfInBounds_toArray, List.set_cons_zero, List.set_cons_succ]
        try simp only [f0]
      refine StepsF.cons rfl rfl (fun x wx hB hF K hK => ?_) ?_
      · have f1 : x 1 = (.pointer (some ⟨KB, 8, none⟩) : Value) := hF 1 (by decide) (by kernel_rfl)
        have q1 : Below X.heap.size X wx := below_then bD hB
        have q2 := cX wx q1; have p0 := q2.1; have p1 := q2.2.1; have p2 := q2.2.2.1; have p3 := q2.2.2.2.1; have p4 := q2.2.2.2.2; clear q2
        simp only [acts, Act.put, List.getD_cons_zero, List.getD_cons_succ, List.setIfInBounds_toArray, List.set_cons_zero, List.set_cons_succ]
        go_simp
        refine hK.out _ _ (after_mk (.int .i64 t0 : Value) ?_ (Below.refl _ _) rfl (fun h => absurd h (by decide)))
        simp only [acts, Act.put, List.getD_cons_zero, List.getD_cons_succ, List.setIfInBounds_toArray, List.set_cons_zero, List.set_cons_succ]
        try simp only [f1]
      refine StepsF.cons rfl rfl (fun x wx hB hF K hK => ?_) ?_
      · have f2 : x 2 = (.int .i64 t0 : Value) := hF 2 (by decide) (by kernel_rfl)
        have q1 : Below X.heap.size X wx := below_then bD hB
        simp only [acts, Act.put, List.getD_cons_zero, List.getD_cons_succ, List.setIfInBounds_toArray, List.set_cons_zero, List.set_cons_succ]
        go_simp
        try simp only [f2]
        with_reducible refine Et0.out _ _ (fun wy hb => ?_)
        refine hK.out _ _ (after_mk (.int .i64 At0 : Value) ?_ hb rfl (fun h => absurd h (by decide)))
        simp only [acts, Act.put, List.getD_cons_zero, List.getD_cons_succ, List.setIfInBounds_toArray, List.set_cons_zero, List.set_cons_succ]
        try simp only [f2]
      refine StepsF.cons rfl rfl (fun x wx hB hF K hK => ?_) ?_
      · simp only [acts, Act.put, List.getD_cons_zero, List.getD_cons_succ, List.setIfInBounds_toArray, List.set_cons_zero, List.set_cons_succ]
        go_simp
        refine hK.out _ _ (after_mk (.pointer (some ⟨KB, 8, none⟩) : Value) ?_ (Below.refl _ _) rfl (fun h => absurd h (by decide)))
        simp only [acts, Act.put, List.getD_cons_zero, List.getD_cons_succ, List.setIfInBounds_toArray, List.set_cons_zero, List.set_cons_succ]
      refine StepsF.cons rfl rfl (fun x wx hB hF K hK => ?_) ?_
      · have f4 : x 4 = (.pointer (some ⟨KB, 8, none⟩) : Value) := hF 4 (by decide) (by kernel_rfl)
        simp only [acts, Act.put, List.getD_cons_zero, List.getD_cons_succ, List.setIfInBounds_toArray, List.set_cons_zero, List.set_cons_succ]
        go_simp
        refine hK.out _ _ (after_mk (.pointer (some ⟨KB, 9, none⟩) : Value) ?_ (Below.refl _ _) rfl (fun h => absurd h (by decide)))
        simp only [acts, Act.put, List.getD_cons_zero, List.getD_cons_succ, List.setIfInBounds_toArray, List.set_cons_zero, List.set_cons_succ]
        try simp only [f4]
      refine StepsF.cons rfl rfl (fun x wx hB hF K hK => ?_) ?_
      · have f5 : x 5 = (.pointer (some ⟨KB, 9, none⟩) : Value) := hF 5 (by decide) (by kernel_rfl)
        have q1 : Below X.heap.size X wx := below_then bD hB
        have q2 := cX wx q1; have p0 := q2.1; have p1 := q2.2.1; have p2 := q2.2.2.1; have p3 := q2.2.2.2.1; have p4 := q2.2.2.2.2; clear q2
        simp only [acts, Act.put, List.getD_cons_zero, List.getD_cons_succ, List.setIfInBounds_toArray, List.set_cons_zero, List.set_cons_succ]
        go_simp
        refine hK.out _ _ (after_mk (.int .i64 t1 : Value) ?_ (Below.refl _ _) rfl (fun h => absurd h (by decide)))
        simp only [acts, Act.put, List.getD_cons_zero, List.getD_cons_succ, List.setIfInBounds_toArray, List.set_cons_zero, List.set_cons_succ]
        try simp only [f5]
      refine StepsF.cons rfl rfl (fun x wx hB hF K hK => ?_) ?_
      · have f6 : x 6 = (.int .i64 t1 : Value) := hF 6 (by decide) (by kernel_rfl)
        have q1 : Below X.heap.size X wx := below_then bD hB
        simp only [acts, Act.put, List.getD_cons_zero, List.getD_cons_succ, List.setIfInBounds_toArray, List.set_cons_zero, List.set_cons_succ]
        go_simp
        try simp only [f6]
        with_reducible refine Et1.out _ _ (fun wy hb => ?_)
        refine hK.out _ _ (after_mk (.int .i64 At1 : Value) ?_ hb rfl (fun h => absurd h (by decide)))
        simp only [acts, Act.put, List.getD_cons_zero, List.getD_cons_succ, List.setIfInBounds_toArray, List.set_cons_zero, List.set_cons_succ]
        try simp only [f6]
      refine StepsF.cons rfl rfl (fun x wx hB hF K hK => ?_) ?_
      · simp only [acts, Act.put, List.getD_cons_zero, List.getD_cons_succ, List.setIfInBounds_toArray, List.set_cons_zero, List.set_cons_succ]
        go_simp
        refine hK.out _ _ (after_mk (.pointer (some ⟨KB, 8, none⟩) : Value) ?_ (Below.refl _ _) rfl (fun h => absurd h (by decide)))
        simp only [acts, Act.put, List.getD_cons_zero, List.getD_cons_succ, List.setIfInBounds_toArray, List.set_cons_zero, List.set_cons_succ]
      refine StepsF.cons rfl rfl (fun x wx hB hF K hK => ?_) ?_
      · have f8 : x 8 = (.pointer (some ⟨KB, 8, none⟩) : Value) := hF 8 (by decide) (by kernel_rfl)
        simp only [acts, Act.put, List.getD_cons_zero, List.getD_cons_succ, List.setIfInBounds_toArray, List.set_cons_zero, List.set_cons_succ]
        go_simp
        refine hK.out _ _ (after_mk (.pointer (some ⟨KB, 10, none⟩) : Value) ?_ (Below.refl _ _) rfl (fun h => absurd h (by decide)))
        simp only [acts, Act.put, List.getD_cons_zero, List.getD_cons_succ, List.setIfInBounds_toArray, List.set_cons_zero, List.set_cons_succ]
        try simp only [f8]
      refine StepsF.cons rfl rfl (fun x wx hB hF K hK => ?_) ?_
      · have f9 : x 9 = (.pointer (some ⟨KB, 10, none⟩) : Value) := hF 9 (by decide) (by kernel_rfl)
        have q1 : Below X.heap.size X wx := below_then bD hB
        have q2 := cX wx q1; have p0 := q2.1; have p1 := q2.2.1; have p2 := q2.2.2.1; have p3 := q2.2.2.2.1; have p4 := q2.2.2.2.2; clear q2
        simp only [acts, Act.put, List.getD_cons_zero, List.getD_cons_succ, List.setIfInBounds_toArray, List.set_cons_zero, List.set_cons_succ]
        go_simp
        refine hK.out _ _ (after_mk (.int .i64 t2 : Value) ?_ (Below.refl _ _) rfl (fun h => absurd h (by decide)))
        simp only [acts, Act.put, List.getD_cons_zero, List.getD_cons_succ, List.setIfInBounds_toArray, List.set_cons_zero, List.set_cons_succ]
        try simp only [f9]
      refine StepsF.cons rfl rfl (fun x wx hB hF K hK => ?_) ?_
      · have f10 : x 10 = (.int .i64 t2 : Value) := hF 10 (by decide) (by kernel_rfl)
        have q1 : Below X.heap.size X wx := below_then bD hB
        simp only [acts, Act.put, List.getD_cons_zero, List.getD_cons_succ, List.setIfInBounds_toArray, List.set_cons_zero, List.set_cons_succ]
        go_simp
        try simp only [f10]
        with_reducible refine Et2.out _ _ (fun wy hb => ?_)
        refine hK.out _ _ (after_mk (.int .i64 At2 : Value) ?_ hb rfl (fun h => absurd h (by decide)))
        simp only [acts, Act.put, List.getD_cons_zero, List.getD_cons_succ, List.setIfInBounds_toArray, List.set_cons_zero, List.set_cons_succ]
        try simp only [f10]
      refine StepsF.cons rfl rfl (fun x wx hB hF K hK => ?_) ?_
      · simp only [acts, Act.put, List.getD_cons_zero, List.getD_cons_succ, List.setIfInBounds_toArray, List.set_cons_zero, List.set_cons_succ]
        go_simp
        refine hK.out _ _ (after_mk (.pointer (some ⟨KB, 8, none⟩) : Value) ?_ (Below.refl _ _) rfl (fun h => absurd h (by decide)))
        simp only [acts, Act.put, List.getD_cons_zero, List.getD_cons_succ, List.setIfInBounds_toArray, List.set_cons_zero, List.set_cons_succ]
      refine StepsF.cons rfl rfl (fun x wx hB hF K hK => ?_) ?_
      · have f12 : x 12 = (.pointer (some ⟨KB, 8, none⟩) : Value) := hF 12 (by decide) (by kernel_rfl)
        simp only [acts, Act.put, List.getD_cons_zero, List.getD_cons_succ, List.setIfInBounds_toArray, List.set_cons_zero, List.set_cons_succ]
        go_simp
        refine hK.out _ _ (after_mk (.pointer (some ⟨KB, 11, none⟩) : Value) ?_ (Below.refl _ _) rfl (fun h => absurd h (by decide)))
        simp only [acts, Act.put, List.getD_cons_zero, List.getD_cons_succ, List.setIfInBounds_toArray, List.set_cons_zero, List.set_cons_succ]
        try simp only [f12]
      refine StepsF.cons rfl rfl (fun x wx hB hF K hK => ?_) ?_
      · have f13 : x 13 = (.pointer (some ⟨KB, 11, none⟩) : Value) := hF 13 (by decide) (by kernel_rfl)
        have q1 : Below X.heap.size X wx := below_then bD hB
        have q2 := cX wx q1; have p0 := q2.1; have p1 := q2.2.1; have p2 := q2.2.2.1; have p3 := q2.2.2.2.1; have p4 := q2.2.2.2.2; clear q2
        simp only [acts, Act.put, List.getD_cons_zero, List.getD_cons_succ, List.setIfInBounds_toArray, List.set_cons_zero, List.set_cons_succ]
        go_simp
        refine hK.out _ _ (after_mk (.int .i64 t3 : Value) ?_ (Below.refl _ _) rfl (fun h => absurd h (by decide)))
        simp only [acts, Act.put, List.getD_cons_zero, List.getD_cons_succ, List.setIfInBounds_toArray, List.set_cons_zero, List.set_cons_succ]
        try simp only [f13]
      refine StepsF.cons rfl rfl (fun x wx hB hF K hK => ?_) ?_
      · have f14 : x 14 = (.int .i64 t3 : Value) := hF 14 (by decide) (by kernel_rfl)
        have q1 : Below X.heap.size X wx := below_then bD hB
        simp only [acts, Act.put, List.getD_cons_zero, List.getD_cons_succ, List.setIfInBounds_toArray, List.set_cons_zero, List.set_cons_succ]
        go_simp
        try simp only [f14]
        with_reducible refine Et3.out _ _ (fun wy hb => ?_)
        refine hK.out _ _ (after_mk (.int .i64 At3 : Value) ?_ hb rfl (fun h => absurd h (by decide)))
        simp only [acts, Act.put, List.getD_cons_zero, List.getD_cons_succ, List.setIfInBounds_toArray, List.set_cons_zero, List.set_cons_succ]
        try simp only [f14]
      refine StepsF.cons rfl rfl (fun x wx hB hF K hK => ?_) ?_
      · simp only [acts, Act.put, List.getD_cons_zero, List.getD_cons_succ, List.setIfInBounds_toArray, List.set_cons_zero, List.set_cons_succ]
        go_simp
        refine hK.out _ _ (after_mk (.pointer (some ⟨KB, 8, none⟩) : Value) ?_ (Below.refl _ _) rfl (fun h => absurd h (by decide)))
        simp only [acts, Act.put, List.getD_cons_zero, List.getD_cons_succ, List.setIfInBounds_toArray, List.set_cons_zero, List.set_cons_succ]
      refine StepsF.cons rfl rfl (fun x wx hB hF K hK => ?_) ?_
      · have f16 : x 16 = (.pointer (some ⟨KB, 8, none⟩) : Value) := hF 16 (by decide) (by kernel_rfl)
        simp only [acts, Act.put, List.getD_cons_zero, List.getD_cons_succ, List.setIfInBounds_toArray, List.set_cons_zero, List.set_cons_succ]
        go_simp
        refine hK.out _ _ (after_mk (.pointer (some ⟨KB, 12, none⟩) : Value) ?_ (Below.refl _ _) rfl (fun h => absurd h (by decide)))
        simp only [acts, Act.put, List.getD_cons_zero, List.getD_cons_succ, List.setIfInBounds_toArray, List.set_cons_zero, List.set_cons_succ]
        try simp only [f16]
      refine StepsF.cons rfl rfl (fun x wx hB hF K hK => ?_) ?_
      · have f17 : x 17 = (.pointer (some ⟨KB, 12, none⟩) : Value) := hF 17 (by decide) (by kernel_rfl)
        have q1 : Below X.heap.size X wx := below_then bD hB
        have q2 := cX wx q1; have p0 := q2.1; have p1 := q2.2.1; have p2 := q2.2.2.1; have p3 := q2.2.2.2.1; have p4 := q2.2.2.2.2; clear q2
        simp only [acts, Act.put, List.getD_cons_zero, List.getD_cons_succ, List.setIfInBounds_toArray, List.set_cons_zero, List.set_cons_succ]
        go_simp
        refine hK.out _ _ (after_mk (.int .i64 t4 : Value) ?_ (Below.refl _ _) rfl (fun h => absurd h (by decide)))
        simp only [acts, Act.put, List.getD_cons_zero, List.getD_cons_succ, List.setIfInBounds_toArray, List.set_cons_zero, List.set_cons_succ]
        try simp only [f17]
      refine StepsF.cons rfl rfl (fun x wx hB hF K hK => ?_) ?_
      · have f18 : x 18 = (.int .i64 t4 : Value) := hF 18 (by decide) (by kernel_rfl)
        have q1 : Below X.heap.size X wx := below_then bD hB
        simp only [acts, Act.put, List.getD_cons_zero, List.getD_cons_succ, List.setIfInBounds_toArray, List.set_cons_zero, List.set_cons_succ]
        go_simp
        try simp only [f18]
        with_reducible refine Et4.out _ _ (fun wy hb => ?_)
        refine hK.out _ _ (after_mk (.int .i64 At4 : Value) ?_ hb rfl (fun h => absurd h (by decide)))
        simp only [acts, Act.put, List.getD_cons_zero, List.getD_cons_succ, List.setIfInBounds_toArray, List.set_cons_zero, List.set_cons_succ]
        try simp only [f18]
      refine StepsF.cons rfl rfl (fun x wx hB hF K hK => ?_) ?_
      · have f3 : x 3 = (.int .i64 At0 : Value) := hF 3 (by decide) (by kernel_rfl)
        have f7 : x 7 = (.int .i64 At1 : Value) := hF 7 (by decide) (by kernel_rfl)
        have f11 : x 11 = (.int .i64 At2 : Value) := hF 11 (by decide) (by kernel_rfl)
        have f15 : x 15 = (.int .i64 At3 : Value) := hF 15 (by decide) (by kernel_rfl)
        have f19 : x 19 = (.int .i64 At4 : Value) := hF 19 (by decide) (by kernel_rfl)
        simp only [acts, Act.put, List.getD_cons_zero, List.getD_cons_succ, List.setIfInBounds_toArray, List.set_cons_zero, List.set_cons_succ]
        go_simp
        refine hK.out _ _ (after_mk (.agg #[.int .i64 At0, .int .i64 At1, .int .i64 At2, .int .i64 At3, .int .i64 At4] : Value) ?_ (Below.refl _ _) rfl (fun h => absurd h (by decide)))
        simp only [acts, Act.put, List.getD_cons_zero, List.getD_cons_succ, List.setIfInBounds_toArray, List.set_cons_zero, List.set_cons_succ]
        try simp only [f3, f7, f11, f15, f19]
      refine StepsF.cons rfl rfl (fun x wx hB hF K hK => ?_) ?_
      · simp only [acts, Act.put, List.getD_cons_zero, List.getD_cons_succ, List.setIfInBounds_toArray, List.set_cons_zero, List.set_cons_succ]
        go_simp
        refine hK.out _ _ (after_mk (.pointer (some ⟨G, 10, none⟩) : Value) ?_ (Below.refl _ _) rfl (fun h => absurd h (by decide)))
        simp only [acts, Act.put, List.getD_cons_zero, List.getD_cons_succ, List.setIfInBounds_toArray, List.set_cons_zero, List.set_cons_succ]
      exact StepsF.nil
    · intro x wx hB hF hne fuel
      have q1 : Below X.heap.size X wx := below_then (Below.refl _ _).drew hB
      have v0 : x 0 = (.pointer (some ⟨KB, 8, none⟩) : Value) := hF 0 (by decide)
      have v1 : x 1 = (.pointer (some ⟨KB, 8, none⟩) : Value) := hF 1 (by decide)
      have v2 : x 2 = (.int .i64 t0 : Value) := hF 2 (by decide)
      have v3 : x 3 = (.int .i64 At0 : Value) := hF 3 (by decide)
      have v4 : x 4 = (.pointer (some ⟨KB, 8, none⟩) : Value) := hF 4 (by decide)
      have v5 : x 5 = (.pointer (some ⟨KB, 9, none⟩) : Value) := hF 5 (by decide)
      have v6 : x 6 = (.int .i64 t1 : Value) := hF 6 (by decide)
      have v7 : x 7 = (.int .i64 At1 : Value) := hF 7 (by decide)
      have v8 : x 8 = (.pointer (some ⟨KB, 8, none⟩) : Value) := hF 8 (by decide)
      have v9 : x 9 = (.pointer (some ⟨KB, 10, none⟩) : Value) := hF 9 (by decide)
      have v10 : x 10 = (.int .i64 t2 : Value) := hF 10 (by decide)
      have v11 : x 11 = (.int .i64 At2 : Value) := hF 11 (by decide)
      have v12 : x 12 = (.pointer (some ⟨KB, 8, none⟩) : Value) := hF 12 (by decide)
      have v13 : x 13 = (.pointer (some ⟨KB, 11, none⟩) : Value) := hF 13 (by decide)
      have v14 : x 14 = (.int .i64 t3 : Value) := hF 14 (by decide)
      have v15 : x 15 = (.int .i64 At3 : Value) := hF 15 (by decide)
      have v16 : x 16 = (.pointer (some ⟨KB, 8, none⟩) : Value) := hF 16 (by decide)
      have v17 : x 17 = (.pointer (some ⟨KB, 12, none⟩) : Value) := hF 17 (by decide)
      have v18 : x 18 = (.int .i64 t4 : Value) := hF 18 (by decide)
      have v19 : x 19 = (.int .i64 At4 : Value) := hF 19 (by decide)
      have v20 : x 20 = (.agg #[.int .i64 At0, .int .i64 At1, .int .i64 At2, .int .i64 At3, .int .i64 At4] : Value) := hF 20 (by decide)
      have v21 : x 21 = (.pointer (some ⟨G, 10, none⟩) : Value) := hF 21 (by decide)
      clear hB hF hne
      simp only [acts, Act.put, List.getD_cons_zero, List.getD_cons_succ, List.setIfInBounds_toArray, List.set_cons_zero, List.set_cons_succ]
      rw [v0, v1, v2, v3, v4, v5, v6, v7, v8, v9, v10, v11, v12, v13, v14, v15, v16, v17, v18, v19, v20, v21]
      clear v0 v1 v2 v3 v4 v5 v6 v7 v8 v9 v10 v11 v12 v13 v14 v15 v16 v17 v18 v19 v20 v21
      refine wpAny_ready (rs := [22]) (by kernel_rfl) (by simp) ?_
      refine AllReady.cons rfl (fun K hK => ?_) AllReady.nil
      rw [if_pos (by rfl)]
      have bGx := bG.then q1
      refine wp_store_mid 25 (.tmp 62) (.tmp 61) rfl G 10 #[.int .i64 At0, .int .i64 At1, .int .i64 At2, .int .i64 At3, .int .i64 At4] rfl rfl (bGx.there 10 5 (by show 15 ≤ 18; decide)) (by kernel_rfl) (all_oneCell_toArray (cs := [At0, At1, At2, At3, At4].map (Value.int .i64)) (ints_oneCell' _)) ?_
      refine hK _ _ ?_
      clear hK K
      refine wpAny_letter (fun wz => Blk wz G 29 (NumT.f ⟨Ayr, Amo, Aba, Afe, Are, Ata, Aad, Acu, At0, At1, At2, At3, At4⟩ nilV nilV nilV nilV nilV) ∧ Rest G X wz) ⟨bGx.setCells [.int .i64 At0, .int .i64 At1, .int .i64 At2, .int .i64 At3, .int .i64 At4] 10 (by show 15 ≤ 18; decide), (Rest.of_below q1).trans (Rest.setCells G [.int .i64 At0, .int .i64 At1, .int .i64 At2, .int .i64 At3, .int .i64 At4] 10 wx)⟩ ?_
      intro wz hz
      refine wpAny_done (by kernel_rfl) ?_ _
      go_wp2_with fail
      go_meet
      case rel => exact hz
  case rest =>
  have HK : KD w wc KB R G (NumT.k ⟨yr, mo, ba, fe, re, ta, ad, cu, t0, t1, t2, t3, t4⟩ vl (.slice an n1 cn) vr vt va vb vc) (NumT.f ⟨Ayr, Amo, Aba, Afe, Are, Ata, Aad, Acu, At0, At1, At2, At3, At4⟩ nilV nilV nilV nilV nilV) := ⟨hcut.2.below hXW (by omega) hXW.size, bK.rest hcut.2 (by omega), bR.rest hcut.2 (by omega), hcut.1⟩
  clear hcut bK bR bG cX hXW
  clear Eyr Emo Eba Efe Ere Eta Ead Ecu Et0 Et1 Et2 Et3 Et4
  obtain ⟨N2, hN2⟩ : ∃ N : NumT, N = ⟨Ayr, Amo, Aba, Afe, Are, Ata, Aad, Acu, At0, At1, At2, At3, At4⟩ := ⟨_, rfl⟩
  obtain ⟨D0, hD0⟩ : ∃ N : NumT, N = ⟨yr, mo, ba, fe, re, ta, ad, cu, t0, t1, t2, t3, t4⟩ := ⟨_, rfl⟩
  rw [← hN2] at TO HK
  rw [← hD0] at HK
  clear hD0 hN2
  have sKW : w.heap.size ≤ KB := Nat.le_of_eq eK
  have hKG : KB < G := by omega
  have hwR : w.heap.size ≤ R := by omega
  clear eR
  go_upto_region 3 with fail
  obtain ⟨X2, hX2⟩ : ∃ Y, Y = wc := ⟨_, rfl⟩
  subst hX2
  obtain ⟨i0, hi, hz0, hz1, hz2⟩ := info_parts Try.info_ln
  obtain ⟨j0, hj, hj0, hj1, hj2⟩ := info_parts Try.info_tr
  obtain ⟨m0, hm0', hm0, hm1, hm2⟩ := info_parts Try.info_st
  have k13 := HK.k.cell 13 _ rfl
  have LL := l0.below HK.below
  have sX2 := HK.d.lt
  go_upto_region 4 with (first
    | (go_at_call 28; refine (dloans_any _ zl _ LL).mono ?_; rintro e w1 ⟨v1, kl, xs, rfl, hkl, hLK, oL, d1⟩; replace HK := HK.then d1)
    | (refine wpl_append (.tmp 65) (.tmp 67) 22 rfl (fun wx => ∃ E, w1.heap.size = E ∧ KD w wx KB R G (NumT.k D0 vl (.slice an n1 cn) vr vt va vb vc) (NumT.f N2 nilV nilV nilV nilV nilV) ∧ wx.ownsRow (G + 1) 46 2 v1 kl (xs.flatMap LnT.f) ∧ Blk wx E 46 (LnT.f ⟨99, 50000⟩)) ⟨_, rfl, HK.then (below_alloc (Below.refl _ _) _), own_low (oL.alloc _) sX2, Blk.fresh _ _ _⟩ ?_
       clear HK oL d1 k13 LL
       rintro w2 ⟨E, eE, HK, oL, bE⟩
       rw [eE]
       have s1 := HK.d.lt
       refine wpList_append_src rfl (.tmp 65) (.tmp 67) 22 rfl (G + 1) 46 i0 (.agg #[.int .i64 0, .int .i64 0]) 2 16 Try.underlying22 hi hz0 hz1 hz2 rfl (by decide) v1 kl (xs.flatMap LnT.f) rfl oL (.slice (some ⟨E, 0, none⟩) 1 1) 1 (LnT.f ⟨99, 50000⟩) rfl (blk_src bE 1) rfl (LnT.one _) (by unfold maxLen; omega) (by omega) (by omega) ?_
       intro v2 w3 ow gr _
       replace HK := HK.grown gr (by omega) hKG hGK (fun k e => by have := (oL.lt k e).1; omega)
       obtain ⟨gl, cl, rfl, lg, _, _⟩ := own_form ow (by omega)
       replace ow : w3.ownsRow (G + 1) 46 2 (.slice (some ⟨gl, 0, none⟩) (kl + 1) cl) (kl + 1) ((loans99 xs).flatMap LnT.f) := own_cast ow rfl (by simp [loans99])
       have d3 := HK.d.cell 3 _ rfl
       have f3 := HK.d.frozen 3
       clear gr oL bE eE s1 lg))
  obtain ⟨lv, hlv⟩ : ∃ lv, lv = Value.slice (some ⟨gl, 0, none⟩) (kl + 1) cl := ⟨_, rfl⟩
  refine wp_letter (fun wx => KD w wx KB R G (NumT.k D0 vl (.slice an n1 cn) vr vt va vb vc) (NumT.f N2 lv nilV nilV nilV nilV) ∧ wx.ownsRow (G + 1) 46 2 lv (kl + 1) ((loans99 xs).flatMap LnT.f)) ⟨by rw [hlv]; exact HK.set 3 _ (by omega) hKG hGK, by rw [hlv]; exact own_set ow (by omega)⟩ ?_
  clear HK ow d3 f3
  rintro X3 ⟨HK, oL⟩
  have sL := loans99_sum hLK hkl
  have HL : Hid (Lies 2 LnT.f X3 lv (loans99 xs)) := own_lies LnT.len oL (by simp [loans99, hLK.len])
  subst hlv
  have d3 := HK.d.cell 3 _ rfl
  obtain ⟨P, hP⟩ : ∃ P, ((loans99 xs).map LnT.bal).sum = P := ⟨_, rfl⟩
  rw [hP] at sL
  have HLn : (loans99 xs).length = kl + 1 := by simp [loans99, hLK.len]
  have HS : Hid (∀ k, 0 ≤ (((loans99 xs).take k).map LnT.bal).sum ∧ (((loans99 xs).take k).map LnT.bal).sum ≤ 1100000) := fun k => by
    have h1 := sum_range 100000 (by decide) (((loans99 xs).take k).map LnT.bal) (fun z hz => by
      obtain ⟨x, hx, rfl⟩ := List.mem_map.1 hz
      exact loans99_bal hLK _ (List.mem_map_of_mem (List.mem_of_mem_take hx)))
    have h2 : (((loans99 xs).take k).map LnT.bal).length ≤ 11 := by rw [List.length_map, List.length_take]; omega
    omega
  have HN : Hid (∀ k x, (loans99 xs)[k]? = some x → (((loans99 xs).take (k + 1)).map LnT.bal).sum = (((loans99 xs).take k).map LnT.bal).sum + x.bal) := fun k x hx => by
    obtain ⟨hk, rfl⟩ := List.getElem?_eq_some_iff.1 hx
    rw [List.take_succ_eq_append_getElem hk, List.map_append, List.sum_append]
    simp only [List.map_cons, List.map_nil, List.sum_cons, List.sum_nil, Int.add_zero]
  have HT : Hid ((((loans99 xs).take (kl + 1)).map LnT.bal).sum = P) := by
    show _ = P
    rw [← hP, ← HLn, List.take_length]
  go_wp2
  go_loopw [4, 73] (fun s i wr => ∃ (k : Nat) (S : Int), k ≤ kl + 1 ∧ i = .int .i64 k ∧ s = .int .i64 S ∧ (((loans99 xs).take k).map LnT.bal).sum = S ∧ Below X3.heap.size X3 wr) (fun _ i _ => kl + 1 - (intOf i).toNat)
  case atStart => exact ⟨0, 0, Nat.zero_le _, rfl, rfl, rfl, Below.refl _ _⟩
  case round =>
  obtain ⟨k, S, hk, rfl, rfl, eS, hB⟩ := hrel
  have hs := HS.out k
  rw [eS] at hs
  by_cases hlt : k < kl + 1
  · obtain ⟨b, off, x, hb, hx, hmem, c0, c1⟩ := HL.out.ln k hlt
    simp only [Option.some.injEq, Addr.mk.injEq, and_true] at hb
    obtain ⟨rfl, rfl⟩ := hb
    replace c0 := cell_keep hB c0
    replace c1 := cell_keep hB c1
    have h1 := HS.out (k + 1)
    have h2 := HN.out k x hx
    rw [eS] at h2
    have HX : Hid ((((loans99 xs).take (k + 1)).map LnT.bal).sum = S + x.bal) := h2
    rw [h2] at h1
    obtain ⟨id, bal⟩ := x
    simp only [Nat.zero_add] at c0 c1 h1 HX
    have k0 : (0 : Int) ≤ (k : Int) := by omega
    have k1 : (k : Int) < ((kl : Int) + 1) := by omega
    clear h2 hx hmem d3
    go_wp2
    go_roundw
    case rel => exact ⟨k + 1, S + bal, by omega, by go_num, rfl, HX.out, below_alloc hB _⟩
    case measure => simp [intOf]; omega
  · obtain rfl : k = kl + 1 := by omega
    rw [HT.out] at eS
    subst eS
    clear hs
    replace HK := HK.then hB
    replace oL := own_below oL hB
    have hwG : w.heap.size ≤ G := by omega
    have S0 : NoteS w KB R G (NumT.k D0 vl (.slice an n1 cn) vr vt va vb vc) N2 (.slice (some ⟨gl, 0, none⟩) (kl + 1) cl) (kl + 1) ((loans99 xs).flatMap LnT.f) nilV nilV 0 [] wr := ⟨HK, oL, World.ownsRow_nil _ _ _ _⟩
    clear hB d3 HK oL HS HN HT HL hlt hk
    obtain ⟨Q6, hQ6⟩ : ∃ Q, P / 6 = Q := ⟨_, rfl⟩
    have e6 : IntKind.i64.wrap (P.tdiv 6) = Q6 := by
      rw [Int.tdiv_eq_ediv_of_nonneg (by omega), hQ6]
      exact wrap_in _ (by omega) (by omega)
    have hq : 0 ≤ Q6 ∧ Q6 ≤ 1100000 := by omega
    go_wp2
    go_loopw [7] (fun i wx => ∃ (k : Nat) (nv : Value) (ys : List TrT), k ≤ 5 ∧ i = .int .i64 k ∧ NotesK k P ys ∧ NoteS w KB R G (NumT.k D0 vl (.slice an n1 cn) vr vt va vb vc) N2 (.slice (some ⟨gl, 0, none⟩) (kl + 1) cl) (kl + 1) ((loans99 xs).flatMap LnT.f) nv nv k ys wx) (fun i _ => 5 - (intOf i).toNat)
    case atStart => exact ⟨0, nilV, [], by omega, rfl, ⟨rfl, by simp, by simp⟩, S0⟩
    case round =>
    clear S0
    obtain ⟨k, nv, ys, hk, rfl, hNK, hS⟩ := hrel
    have HNK : Hid (NotesK k P ys) := hNK
    clear hNK
    have k14 := hS.kd.k.cell 14 _ rfl
    go_upto_region 11 with fail
    go_cut [91] (fun c wx => c = .bool (decide (k < 1 + n1 ∧ k < 5)) ∧ wx = wr)
    case first =>
      by_cases q1 : k < 1 + n1
      · have q3 : (k : Int) < 1 + (n1 : Int) := by omega
        by_cases q2 : k < 5
        · have e : decide (k < 1 + n1 ∧ k < 5) = true := decide_eq_true ⟨q1, q2⟩
          have q4 : (k : Int) < 5 := by omega
          go_wp2
          go_meet
          case rel => exact ⟨by rw [e]; try (congr 1; simp; omega), by simp⟩
        · have e : decide (k < 1 + n1 ∧ k < 5) = false := decide_eq_false (fun h => q2 h.2)
          have q4 : ¬ (k : Int) < 5 := by omega
          go_wp2
          go_meet
          case rel => exact ⟨by rw [e]; try (congr 1; simp; omega), by simp⟩
      · have e : decide (k < 1 + n1 ∧ k < 5) = false := decide_eq_false (fun h => q1 h.1)
        have q3 : ¬ (k : Int) < 1 + (n1 : Int) := by omega
        go_wp2
        go_meet
        case rel => exact ⟨by rw [e]; try (congr 1; simp; omega), by simp⟩
    case rest =>
    obtain ⟨rfl, hw⟩ := hcut
    have hw := hw.symm
    subst hw
    by_cases g1 : k < 1 + n1 ∧ k < 5
    · rw [decide_eq_true g1]
      obtain ⟨g1, g2⟩ := g1
      obtain ⟨J1, hJ1⟩ : ∃ J, pickV zn k = J := ⟨_, rfl⟩
      obtain ⟨J2, hJ2⟩ : ∃ J, pickV zr k = J := ⟨_, rfl⟩
      obtain ⟨J3, hJ3⟩ : ∃ J, pickV zt k = J := ⟨_, rfl⟩
      obtain ⟨A1, hA1⟩ : ∃ A, 0 + J1 % (Q6 - 0 + 1) = A := ⟨_, rfl⟩
      obtain ⟨B1, hB1⟩ : ∃ A, 0 + J2 % (3 - 0 + 1) = A := ⟨_, rfl⟩
      obtain ⟨B2, hB2⟩ : ∃ A, 0 + J3 % (1200 - 0 + 1) = A := ⟨_, rfl⟩
      have ba := win_in J1 0 Q6 (by omega)
      have bb := win_in J2 0 3 (by omega)
      have bc := win_in J3 0 1200 (by omega)
      rw [hA1] at ba
      rw [hB1] at bb
      rw [hB2] at bc
      have HX : Hid (NotesK (k + 1) P (ys ++ [⟨B1, 1 + A1, B2⟩])) := HNK.out.next bb (by simp only; omega) bc
      have PN : Hid (∀ (wx : World) (R : Ending → World → Prop), Below w.heap.size w wx → R (.returned (.int .i64 J1)) wx → Calls Try.prog 29 #[.slice an n1 cn, .int .i64 k] wx R) := fun wx R b h => (pick_to (l1.below b) (by omega) hJ1).mono (by rintro e w' ⟨rfl, rfl⟩; exact h)
      have PR : Hid (∀ (wx : World) (R : Ending → World → Prop), Below w.heap.size w wx → R (.returned (.int .i64 J2)) wx → Calls Try.prog 29 #[vr, .int .i64 k] wx R) := fun wx R b h => (pick_to (l2.below b) (by omega) hJ2).mono (by rintro e w' ⟨rfl, rfl⟩; exact h)
      have PT : Hid (∀ (wx : World) (R : Ending → World → Prop), Below w.heap.size w wx → R (.returned (.int .i64 J3)) wx → Calls Try.prog 29 #[vt, .int .i64 k] wx R) := fun wx R b h => (pick_to (l3.below b) (by omega) hJ3).mono (by rintro e w' ⟨rfl, rfl⟩; exact h)
      have W1 : Hid (∀ (wx : World) (R : Ending → World → Prop), True → R (.returned (.int .i64 A1)) wx → Calls Try.prog 15 #[.int .i64 J1, .int .i64 0, .int .i64 Q6] wx R) := fun wx R _ h => (win_at (by omega) (by omega) (by omega) (by omega) hA1 wx).mono (by rintro e w' ⟨rfl, rfl⟩; exact h)
      have W2 : Hid (∀ (wx : World) (R : Ending → World → Prop), True → R (.returned (.int .i64 B1)) wx → Calls Try.prog 15 #[.int .i64 J2, .int .i64 0, .int .i64 3] wx R) := fun wx R _ h => (win_at (by omega) (by omega) (by omega) (by omega) hB1 wx).mono (by rintro e w' ⟨rfl, rfl⟩; exact h)
      have W3 : Hid (∀ (wx : World) (R : Ending → World → Prop), True → R (.returned (.int .i64 B2)) wx → Calls Try.prog 15 #[.int .i64 J3, .int .i64 0, .int .i64 1200] wx R) := fun wx R _ h => (win_at (by omega) (by omega) (by omega) (by omega) hB2 wx).mono (by rintro e w' ⟨rfl, rfl⟩; exact h)
      have hbw := hS.kd.below
      clear hJ1 hJ2 hJ3 hA1 hB1 hB2 bb bc
      go_upto_region 14 with (first
        | (with_reducible refine PN.out _ _ hbw ?_)
        | (with_reducible refine W1.out _ _ trivial ?_))
      clear k14 e6 PN W1
      obtain ⟨C, hC⟩ : ∃ C, 1 + A1 = C := ⟨_, rfl⟩
      rw [hC] at HX ⊢
      clear hC ba
      refine wp_region_y [102, 103, 104, 105, 106, 107, 108, 109, 110, 111, 112, 113, 114, 115, 116, 117, 118, 0] [0, 1, 2, 3, 4, 5, 6, 7, 8, 9, 10, 11, 12, 13, 14, 15, 16] [fun y => y = (.pointer (some ⟨G, 4, none⟩) : Value), fun y => y = (nv : Value), fun y => y = (.pointer (some ⟨KB, 15, none⟩) : Value), fun y => y = (vr : Value), fun y => y = (.int .i64 k : Value), fun y => y = (.int .i64 J2 : Value), fun y => y = (.int .i64 B1 : Value), fun y => y = (.int .i64 C : Value), fun y => y = (.pointer (some ⟨KB, 16, none⟩) : Value), fun y => y = (vt : Value), fun y => y = (.int .i64 k : Value), fun y => y = (.int .i64 J3 : Value), fun y => y = (.int .i64 B2 : Value), fun y => y = (.agg #[.int .i64 B1, .int .i64 C, .int .i64 B2] : Value), fun _ => True, fun y => ∃ p n c, y = Value.slice p n c, fun y => y = (.pointer (some ⟨G, 4, none⟩) : Value), fun _ => True] (fun D y wx => NoteG w KB R G (NumT.k D0 vl (.slice an n1 cn) vr vt va vb vc) N2 (.slice (some ⟨gl, 0, none⟩) (kl + 1) cl) (kl + 1) ((loans99 xs).flatMap LnT.f) nv k ys ⟨B1, C, B2⟩ (D 14) (D 15) (D 17) (y 14) (y 15) wx) [0, 1, 2, 3, 4, 5, 6, 7, 8, 9, 10, 11, 12, 13, 14, 15, 16, 17] (by kernel_rfl) (by kernel_rfl) (by kernel_rfl) (fun _ => ⟨hS.kd.k, hS.kd.below.drew, fun _ => ⟨hS.then (Below.refl _ _).drew, fun h => (by cases h)⟩, fun h => (by cases h), fun h => (by cases h)⟩) ?_ ?_
      · refine StepsY.cons (some 102) rfl rfl ?_ ?_
        · intro y wx D hg hF hno hD K hK
          simp only [acts, Act.put, List.getD_cons_zero, List.getD_cons_succ, List.setIfInBounds_toArray, List.set_cons_zero, List.set_cons_succ]
          go_simp
          refine hK.out _ _ (afterY_mk (.pointer (some ⟨G, 4, none⟩) : Value) ?_ rfl (by simpa using hg))
          simp only [acts, Act.put, List.getD_cons_zero, List.getD_cons_succ, List.setIfInBounds_toArray, List.set_cons_zero, List.set_cons_succ]
        refine StepsY.cons (some 103) rfl rfl ?_ ?_
        · intro y wx D hg hF hno hD K hK
          have f0 : y 0 = (.pointer (some ⟨G, 4, none⟩) : Value) := (hF 0 (by kernel_rfl)).2
          have p0 := (hg.pre (hno 15 (by kernel_rfl))).1.kd.d.cell 4 _ rfl
          simp only [acts, Act.put, List.getD_cons_zero, List.getD_cons_succ, List.setIfInBounds_toArray, List.set_cons_zero, List.set_cons_succ]
          go_simp
          refine hK.out _ _ (afterY_mk (nv : Value) ?_ rfl (by simpa using hg))
          simp only [acts, Act.put, List.getD_cons_zero, List.getD_cons_succ, List.setIfInBounds_toArray, List.set_cons_zero, List.set_cons_succ]
          try simp only [f0]
        refine StepsY.cons (some 104) rfl rfl ?_ ?_
        · intro y wx D hg hF hno hD K hK
          simp only [acts, Act.put, List.getD_cons_zero, List.getD_cons_succ, List.setIfInBounds_toArray, List.set_cons_zero, List.set_cons_succ]
          go_simp
          refine hK.out _ _ (afterY_mk (.pointer (some ⟨KB, 15, none⟩) : Value) ?_ rfl (by simpa using hg))
          simp only [acts, Act.put, List.getD_cons_zero, List.getD_cons_succ, List.setIfInBounds_toArray, List.set_cons_zero, List.set_cons_succ]
        refine StepsY.cons (some 105) rfl rfl ?_ ?_
        · intro y wx D hg hF hno hD K hK
          have f2 : y 2 = (.pointer (some ⟨KB, 15, none⟩) : Value) := (hF 2 (by kernel_rfl)).2
          have p1 := hg.k.cell 15 _ rfl
          simp only [acts, Act.put, List.getD_cons_zero, List.getD_cons_succ, List.setIfInBounds_toArray, List.set_cons_zero, List.set_cons_succ]
          go_simp
          refine hK.out _ _ (afterY_mk (vr : Value) ?_ rfl (by simpa using hg))
          simp only [acts, Act.put, List.getD_cons_zero, List.getD_cons_succ, List.setIfInBounds_toArray, List.set_cons_zero, List.set_cons_succ]
          try simp only [f2]
        refine StepsY.cons (some 106) rfl rfl ?_ ?_
        · intro y wx D hg hF hno hD K hK
          simp only [acts, Act.put, List.getD_cons_zero, List.getD_cons_succ, List.setIfInBounds_toArray, List.set_cons_zero, List.set_cons_succ]
          go_simp
          refine hK.out _ _ (afterY_mk (.int .i64 k : Value) ?_ rfl (by simpa using hg))
          simp only [acts, Act.put, List.getD_cons_zero, List.getD_cons_succ, List.setIfInBounds_toArray, List.set_cons_zero, List.set_cons_succ]
        refine StepsY.cons (some 107) rfl rfl ?_ ?_
        · intro y wx D hg hF hno hD K hK
          have f3 : y 3 = (vr : Value) := (hF 3 (by kernel_rfl)).2
          have f4 : y 4 = (.int .i64 k : Value) := (hF 4 (by kernel_rfl)).2
          simp only [acts, Act.put, List.getD_cons_zero, List.getD_cons_succ, List.setIfInBounds_toArray, List.set_cons_zero, List.set_cons_succ]
          go_simp
          try simp only [f3, f4]
          refine PR.out _ _ hg.below ?_
          refine hK.out _ _ (afterY_mk (.int .i64 J2 : Value) ?_ rfl (by simpa using hg))
          simp only [acts, Act.put, List.getD_cons_zero, List.getD_cons_succ, List.setIfInBounds_toArray, List.set_cons_zero, List.set_cons_succ]
          try simp only [f3, f4]
        refine StepsY.cons (some 108) rfl rfl ?_ ?_
        · intro y wx D hg hF hno hD K hK
          have f5 : y 5 = (.int .i64 J2 : Value) := (hF 5 (by kernel_rfl)).2
          simp only [acts, Act.put, List.getD_cons_zero, List.getD_cons_succ, List.setIfInBounds_toArray, List.set_cons_zero, List.set_cons_succ]
          go_simp
          try simp only [f5]
          refine W2.out _ _ trivial ?_
          refine hK.out _ _ (afterY_mk (.int .i64 B1 : Value) ?_ rfl (by simpa using hg))
          simp only [acts, Act.put, List.getD_cons_zero, List.getD_cons_succ, List.setIfInBounds_toArray, List.set_cons_zero, List.set_cons_succ]
          try simp only [f5]
        refine StepsY.cons (some 109) rfl rfl ?_ ?_
        · intro y wx D hg hF hno hD K hK
          simp only [acts, Act.put, List.getD_cons_zero, List.getD_cons_succ, List.setIfInBounds_toArray, List.set_cons_zero, List.set_cons_succ]
          go_simp
          refine hK.out _ _ (afterY_mk (.int .i64 C : Value) ?_ rfl (by simpa using hg))
          simp only [acts, Act.put, List.getD_cons_zero, List.getD_cons_succ, List.setIfInBounds_toArray, List.set_cons_zero, List.set_cons_succ]
        refine StepsY.cons (some 110) rfl rfl ?_ ?_
        · intro y wx D hg hF hno hD K hK
          simp only [acts, Act.put, List.getD_cons_zero, List.getD_cons_succ, List.setIfInBounds_toArray, List.set_cons_zero, List.set_cons_succ]
          go_simp
          refine hK.out _ _ (afterY_mk (.pointer (some ⟨KB, 16, none⟩) : Value) ?_ rfl (by simpa using hg))
          simp only [acts, Act.put, List.getD_cons_zero, List.getD_cons_succ, List.setIfInBounds_toArray, List.set_cons_zero, List.set_cons_succ]
        refine StepsY.cons (some 111) rfl rfl ?_ ?_
        · intro y wx D hg hF hno hD K hK
          have f8 : y 8 = (.pointer (some ⟨KB, 16, none⟩) : Value) := (hF 8 (by kernel_rfl)).2
          have p2 := hg.k.cell 16 _ rfl
          simp only [acts, Act.put, List.getD_cons_zero, List.getD_cons_succ, List.setIfInBounds_toArray, List.set_cons_zero, List.set_cons_succ]
          go_simp
          refine hK.out _ _ (afterY_mk (vt : Value) ?_ rfl (by simpa using hg))
          simp only [acts, Act.put, List.getD_cons_zero, List.getD_cons_succ, List.setIfInBounds_toArray, List.set_cons_zero, List.set_cons_succ]
          try simp only [f8]
        refine StepsY.cons (some 112) rfl rfl ?_ ?_
        · intro y wx D hg hF hno hD K hK
          simp only [acts, Act.put, List.getD_cons_zero, List.getD_cons_succ, List.setIfInBounds_toArray, List.set_cons_zero, List.set_cons_succ]
          go_simp
          refine hK.out _ _ (afterY_mk (.int .i64 k : Value) ?_ rfl (by simpa using hg))
          simp only [acts, Act.put, List.getD_cons_zero, List.getD_cons_succ, List.setIfInBounds_toArray, List.set_cons_zero, List.set_cons_succ]
        refine StepsY.cons (some 113) rfl rfl ?_ ?_
        · intro y wx D hg hF hno hD K hK
          have f9 : y 9 = (vt : Value) := (hF 9 (by kernel_rfl)).2
          have f10 : y 10 = (.int .i64 k : Value) := (hF 10 (by kernel_rfl)).2
          simp only [acts, Act.put, List.getD_cons_zero, List.getD_cons_succ, List.setIfInBounds_toArray, List.set_cons_zero, List.set_cons_succ]
          go_simp
          try simp only [f9, f10]
          refine PT.out _ _ hg.below ?_
          refine hK.out _ _ (afterY_mk (.int .i64 J3 : Value) ?_ rfl (by simpa using hg))
          simp only [acts, Act.put, List.getD_cons_zero, List.getD_cons_succ, List.setIfInBounds_toArray, List.set_cons_zero, List.set_cons_succ]
          try simp only [f9, f10]
        refine StepsY.cons (some 114) rfl rfl ?_ ?_
        · intro y wx D hg hF hno hD K hK
          have f11 : y 11 = (.int .i64 J3 : Value) := (hF 11 (by kernel_rfl)).2
          simp only [acts, Act.put, List.getD_cons_zero, List.getD_cons_succ, List.setIfInBounds_toArray, List.set_cons_zero, List.set_cons_succ]
          go_simp
          try simp only [f11]
          refine W3.out _ _ trivial ?_
          refine hK.out _ _ (afterY_mk (.int .i64 B2 : Value) ?_ rfl (by simpa using hg))
          simp only [acts, Act.put, List.getD_cons_zero, List.getD_cons_succ, List.setIfInBounds_toArray, List.set_cons_zero, List.set_cons_succ]
          try simp only [f11]
        refine StepsY.cons (some 115) rfl rfl ?_ ?_
        · intro y wx D hg hF hno hD K hK
          have f6 : y 6 = (.int .i64 B1 : Value) := (hF 6 (by kernel_rfl)).2
          have f7 : y 7 = (.int .i64 C : Value) := (hF 7 (by kernel_rfl)).2
          have f12 : y 12 = (.int .i64 B2 : Value) := (hF 12 (by kernel_rfl)).2
          simp only [acts, Act.put, List.getD_cons_zero, List.getD_cons_succ, List.setIfInBounds_toArray, List.set_cons_zero, List.set_cons_succ]
          go_simp
          refine hK.out _ _ (afterY_mk (.agg #[.int .i64 B1, .int .i64 C, .int .i64 B2] : Value) ?_ rfl (by simpa using hg))
          simp only [acts, Act.put, List.getD_cons_zero, List.getD_cons_succ, List.setIfInBounds_toArray, List.set_cons_zero, List.set_cons_succ]
          try simp only [f6, f7, f12]
        refine StepsY.cons (some 116) rfl rfl ?_ ?_
        · intro y wx D hg hF hno hD K hK
          have f13 : y 13 = (.agg #[.int .i64 B1, .int .i64 C, .int .i64 B2] : Value) := (hF 13 (by kernel_rfl)).2
          have hb : D 15 = false := hno 15 (by kernel_rfl)
          simp only [acts, Act.put, List.getD_cons_zero, List.getD_cons_succ, List.setIfInBounds_toArray, List.set_cons_zero, List.set_cons_succ]
          go_simp
          try simp only [f13]
          refine hK.out _ _ (afterY_mk (.slice (some ⟨wx.heap.size, 0, none⟩) 1 1) ?_ trivial ?_)
          · (try simp only [acts, Act.put, List.getD_cons_zero, List.getD_cons_succ, List.setIfInBounds_toArray, List.set_cons_zero, List.set_cons_succ]); (try simp only [f13])
          · have hp := hg.pre hb
            have sG := hp.1.kd.d.lt
            exact ⟨hg.k.alloc _, below_alloc hg.below _, fun _ => ⟨hp.1.then (below_alloc (Below.refl _ _) _), fun _ => ⟨_, rfl, sG, Blk.fresh _ _ (TrT.f ⟨B1, C, B2⟩)⟩⟩, fun h => by simp [hb] at h, fun h => (hg.fin (by simpa using h)).then (below_alloc (Below.refl _ _) _)⟩
        refine StepsY.cons (some 117) rfl rfl ?_ ?_
        · intro y wx D hg hF hno hD K hK
          have f1 : y 1 = (nv : Value) := (hF 1 (by kernel_rfl)).2
          have h14 : D 14 = true := (hF 14 (by kernel_rfl)).1
          have h17 : D 17 = false := hno 17 (by kernel_rfl)
          have hp := hg.pre hD
          refine Exists.elim (hp.2 h14) (fun g hT => ?_)
          have e14 := hT.1
          have bg := hT.2.2
          have sG := hp.1.kd.d.lt
          simp only [acts, Act.put, List.getD_cons_zero, List.getD_cons_succ, List.setIfInBounds_toArray, List.set_cons_zero, List.set_cons_succ]
          rw [if_pos (by rfl)]
          refine wp_append_src rfl (.tmp 103) (.tmp 116) 23 rfl (G + 1) 32 j0 (.agg #[.int .i64 0, .int .i64 0, .int .i64 0]) 3 24 Try.underlying23 hj hj0 hj1 hj2 rfl (by decide) nv k (ys.flatMap TrT.f) (by exact f1) hp.1.on (.slice (some ⟨g, 0, none⟩) 1 1) 1 (TrT.f ⟨B1, C, B2⟩) (by exact e14) (blk_src bg 1) rfl (TrT.one _) (by unfold maxLen; omega) (by omega) (by omega) ?_
          intro v2 w3 ow gr _
          refine hK.out _ _ (afterY_mk v2 ?_ (own_slice ow) ?_)
          · (try simp only [acts, Act.put, List.getD_cons_zero, List.getD_cons_succ, List.setIfInBounds_toArray, List.set_cons_zero, List.set_cons_succ])
            (try go_simp)
          · have q := hp.1.grown gr (own_more _ ow) hwG hKG hGK
            exact ⟨q.kd.k, q.kd.below, fun h => by simp at h, fun _ _ => q, fun h => by simp [h17] at h⟩
        refine StepsY.cons (some 118) rfl rfl ?_ ?_
        · intro y wx D hg hF hno hD K hK
          simp only [acts, Act.put, List.getD_cons_zero, List.getD_cons_succ, List.setIfInBounds_toArray, List.set_cons_zero, List.set_cons_succ]
          go_simp
          refine hK.out _ _ (afterY_mk (.pointer (some ⟨G, 4, none⟩) : Value) ?_ rfl (by simpa using hg))
          simp only [acts, Act.put, List.getD_cons_zero, List.getD_cons_succ, List.setIfInBounds_toArray, List.set_cons_zero, List.set_cons_succ]
        refine StepsY.cons none rfl rfl ?_ ?_
        · intro y wx D hg hF hno hD K hK
          have f16 : y 16 = (.pointer (some ⟨G, 4, none⟩) : Value) := (hF 16 (by kernel_rfl)).2
          have h15 : D 15 = true := (hF 15 (by kernel_rfl)).1
          have hs := hg.mid h15 hD
          have d4 := hs.kd.d.cell 4 _ rfl
          have f4 := hs.kd.d.frozen 4
          have hp0 : ∃ p n c, y 15 = Value.slice p n c := (hF 15 (by kernel_rfl)).2
          have q := hs.store hwG hKG hGK
          simp only [acts, Act.put, List.getD_cons_zero, List.getD_cons_succ, List.setIfInBounds_toArray, List.set_cons_zero, List.set_cons_succ]
          rw [if_pos (by rfl)]
          refine wp_store_slice 23 (.tmp 118) (.tmp 117) rfl G 4 (y 15) nv (by exact f16) rfl (by kernel_rfl) hp0 d4 f4 ?_
          refine hK.out _ _ (afterY_mk undef ?_ trivial ?_)
          · (try simp only [acts, Act.put, List.getD_cons_zero, List.getD_cons_succ, List.setIfInBounds_toArray, List.set_cons_zero, List.set_cons_succ])
            (try go_simp)
          · exact ⟨q.kd.k, q.kd.below, fun h => by simp [h15] at h, fun _ h => by simp at h, fun _ => q⟩
        exact StepsY.nil
      · intro y wx hF hg
        have v0 : y 0 = (.pointer (some ⟨G, 4, none⟩) : Value) := hF 0 (by decide)
        have v1 : y 1 = (nv : Value) := hF 1 (by decide)
        have v2 : y 2 = (.pointer (some ⟨KB, 15, none⟩) : Value) := hF 2 (by decide)
        have v3 : y 3 = (vr : Value) := hF 3 (by decide)
        have v4 : y 4 = (.int .i64 k : Value) := hF 4 (by decide)
        have v5 : y 5 = (.int .i64 J2 : Value) := hF 5 (by decide)
        have v6 : y 6 = (.int .i64 B1 : Value) := hF 6 (by decide)
        have v7 : y 7 = (.int .i64 C : Value) := hF 7 (by decide)
        have v8 : y 8 = (.pointer (some ⟨KB, 16, none⟩) : Value) := hF 8 (by decide)
        have v9 : y 9 = (vt : Value) := hF 9 (by decide)
        have v10 : y 10 = (.int .i64 k : Value) := hF 10 (by decide)
        have v11 : y 11 = (.int .i64 J3 : Value) := hF 11 (by decide)
        have v12 : y 12 = (.int .i64 B2 : Value) := hF 12 (by decide)
        have v13 : y 13 = (.agg #[.int .i64 B1, .int .i64 C, .int .i64 B2] : Value) := hF 13 (by decide)
        have v16 : y 16 = (.pointer (some ⟨G, 4, none⟩) : Value) := hF 16 (by decide)
        have v15 : ∃ p n c, y 15 = Value.slice p n c := hF 15 (by decide)
        clear hF
        simp only [acts, Act.put, List.getD_cons_zero, List.getD_cons_succ, List.setIfInBounds_toArray, List.set_cons_zero, List.set_cons_succ]
        rw [v0, v1, v2, v3, v4, v5, v6, v7, v8, v9, v10, v11, v12, v13, v16]
        clear v0 v1 v2 v3 v4 v5 v6 v7 v8 v9 v10 v11 v12 v13 v16
        have q := hg.fin rfl
        refine Exists.elim v15 (fun p hp => ?_)
        refine Exists.elim hp (fun n hn => ?_)
        refine Exists.elim hn (fun c hc => ?_)
        rw [hc] at q ⊢
        go_wp2
        go_roundw
        case rel => exact ⟨k + 1, by omega, by omega, .slice p n c, ys ++ [⟨B1, C, B2⟩], HX.out, q⟩
        case measure => simp [intOf]; omega
    · rw [decide_eq_false g1]
      have hk1 : 1 ≤ k ∧ k ≤ 5 := by omega
      have HM0 : Hid (ModeS w KB R G (NumT.k D0 vl (.slice an n1 cn) vr vt va vb vc) N2 (.slice (some ⟨gl, 0, none⟩) (kl + 1) cl) (kl + 1) ((loans99 xs).flatMap LnT.f) nv k (ys.flatMap TrT.f) 0 [nilV, nilV, nilV] [] wr) := ⟨hS.kd, hS.ol, hS.on, rfl, rfl, fun j v xs _ h => by simp at h, fun i j v u _ h => absurd h (Nat.not_lt_zero _)⟩
      clear hS k14 e6 g1 hq
      go_wp2
      go_loopw [119] (fun i wx => ∃ (m : Nat) (V : List Value) (S : List (List StT)), m ≤ 3 ∧ i = .int .i64 m ∧ ModeS w KB R G (NumT.k D0 vl (.slice an n1 cn) vr vt va vb vc) N2 (.slice (some ⟨gl, 0, none⟩) (kl + 1) cl) (kl + 1) ((loans99 xs).flatMap LnT.f) nv k (ys.flatMap TrT.f) m V S wx) (fun i _ => 3 - (intOf i).toNat)
      case atStart => exact ⟨0, _, _, by omega, rfl, HM0.out⟩
      case round =>
      clear HM0
      obtain ⟨m, V, S, hm, rfl, hM⟩ := hrel
      have HM : Hid (ModeS w KB R G (NumT.k D0 vl (.slice an n1 cn) vr vt va vb vc) N2 (.slice (some ⟨gl, 0, none⟩) (kl + 1) cl) (kl + 1) ((loans99 xs).flatMap LnT.f) nv k (ys.flatMap TrT.f) m V S wr) := hM
      clear hM
      by_cases hlt : m < 3
      · obtain ⟨vm, zm, cm, lm⟩ : ∃ vm zm, (NumT.k D0 vl (.slice an n1 cn) vr vt va vb vc)[17 + m]? = some vm ∧ Lies 1 intF w vm zm := by
          rcases (show m = 0 ∨ m = 1 ∨ m = 2 by omega) with rfl | rfl | rfl
          · exact ⟨va, za, rfl, l4⟩
          · exact ⟨vb, zb, rfl, l5⟩
          · exact ⟨vc, zc, rfl, l6⟩
        obtain ⟨am, qm, rfl, _, _, _, _⟩ := id lm
        obtain ⟨nm, hnm⟩ : ∃ n, zm.length = n := ⟨_, rfl⟩
        rw [hnm] at lm cm
        have hlm := lm.len
        unfold maxLen at hlm
        have CM : Hid ((NumT.k D0 vl (.slice an n1 cn) vr vt va vb vc)[17 + m]? = some (.slice am nm qm)) := cm
        have LM : Hid (Lies 1 intF w (.slice am nm qm) zm) := lm
        have hnm2 : nm ≤ 9223372036854775807 := by omega
        clear hlm hnm cm lm
        have mi0 : (0 : Int) ≤ (m : Int) := by omega
        have mi1 : (m : Int) < 3 := by omega
        obtain ⟨Wm, hWm⟩ : ∃ W, W = wr := ⟨_, rfl⟩
        subst hWm
        go_wp2
        go_loopw [10, 11] (fun l i wx => ∃ (j : Nat) (ss : List StT), j ≤ 12 ∧ i = .int .i64 j ∧ StepsK j ss ∧ wx.ownsRow Wm.heap.size 37 2 l ss.length (ss.flatMap StT.f) ∧ Below Wm.heap.size Wm wx) (fun _ i _ => 12 - (intOf i).toNat)
        case atStart => exact ⟨0, [], by omega, rfl, ⟨Nat.le_refl _, rfl⟩, World.ownsRow_nil _ _ _ _, Below.refl _ _⟩
        case round =>
        obtain ⟨j, ss, hj, rfl, hSK, hO, hB⟩ := hrel
        obtain ⟨pl, ql, cl2, rfl⟩ := own_slice hO
        have hql : ss.length = ql := (own_lies StT.len hO rfl).len.1
        have HSK : Hid (StepsK j ss) := hSK
        have HO : Hid (wr.ownsRow Wm.heap.size 37 2 (.slice pl ql cl2) ql (ss.flatMap StT.f)) := by rw [← hql] at hO ⊢; exact hO
        clear hSK hO
        have HMr : Hid (ModeS w KB R G (NumT.k D0 vl (.slice an n1 cn) vr vt va vb vc) N2 (.slice (some ⟨gl, 0, none⟩) (kl + 1) cl) (kl + 1) ((loans99 xs).flatMap LnT.f) nv k (ys.flatMap TrT.f) m V S wr) := HM.out.then hB
        have kc := HMr.out.kd.k.cell (17 + m) _ CM.out
        go_upto_region 20 with fail
        go_cut [132] (fun c wx => c = .bool (decide (j < nm ∧ j < 12)) ∧ wx = wr)
        case first =>
          by_cases q1 : j < nm
          · have q3 : (j : Int) < (nm : Int) := by omega
            by_cases q2 : j < 12
            · have e : decide (j < nm ∧ j < 12) = true := decide_eq_true ⟨q1, q2⟩
              have q4 : (j : Int) < 12 := by omega
              go_wp2
              go_meet
              case rel => exact ⟨by rw [e]; try (congr 1; simp; omega), by simp⟩
            · have e : decide (j < nm ∧ j < 12) = false := decide_eq_false (fun h => q2 h.2)
              have q4 : ¬ (j : Int) < 12 := by omega
              go_wp2
              go_meet
              case rel => exact ⟨by rw [e]; try (congr 1; simp; omega), by simp⟩
          · have e : decide (j < nm ∧ j < 12) = false := decide_eq_false (fun h => q1 h.1)
            have q3 : ¬ (j : Int) < (nm : Int) := by omega
            go_wp2
            go_meet
            case rel => exact ⟨by rw [e]; try (congr 1; simp; omega), by simp⟩
        case rest =>
        obtain ⟨rfl, hw⟩ := hcut
        have hw := hw.symm
        subst hw
        by_cases g2 : j < nm ∧ j < 12
        · rw [decide_eq_true g2]
          obtain ⟨g2, g3⟩ := g2
          obtain ⟨bm, om, rfl, cz⟩ := LM.out.num j g2
          replace cz := cell_keep HMr.out.kd.below cz
          generalize zm.getD j 0 = Z at cz
          obtain ⟨A, hA⟩ : ∃ A, 1 + Z % (7 - 1 + 1) = A := ⟨_, rfl⟩
          have ba := win_in Z 1 7 (by omega)
          rw [hA] at ba
          obtain ⟨Z7, e7⟩ : ∃ Q, IntKind.i64.wrap (Z.tdiv 7) = Q := ⟨_, rfl⟩
          obtain ⟨B, hB1⟩ : ∃ A, 0 + Z7 % (3 - 0 + 1) = A := ⟨_, rfl⟩
          have bb := win_in Z7 0 3 (by omega)
          rw [hB1] at bb
          have WA : Hid (∀ (wx : World) (R : Ending → World → Prop), True → R (.returned (.int .i64 A)) wx → Calls Try.prog 15 #[.int .i64 Z, .int .i64 1, .int .i64 7] wx R) := fun wx R _ h => (win_at (by omega) (by omega) (by omega) (by omega) hA wx).mono (by rintro e w' ⟨rfl, rfl⟩; exact h)
          have WB : Hid (∀ (wx : World) (R : Ending → World → Prop), True → R (.returned (.int .i64 B)) wx → Calls Try.prog 15 #[.int .i64 Z7, .int .i64 0, .int .i64 3] wx R) := fun wx R _ h => (win_at (by omega) (by omega) (by omega) (by omega) hB1 wx).mono (by rintro e w' ⟨rfl, rfl⟩; exact h)
          obtain ⟨Bz, hBz⟩ : ∃ Bz : Int, (if A = 3 then B else 0) = Bz := ⟨_, rfl⟩
          have HS : Hid (StT.ok ⟨A, Bz⟩ = true) := st_made ba.1 ba.2 (fun h => by rw [if_pos h] at hBz; omega) (fun h => by rw [if_neg h] at hBz; exact hBz.symm)
          have j0 : (0 : Int) ≤ (j : Int) := by omega
          have j1 : (j : Int) < (nm : Int) := by omega
          clear hA hB1 bb
          go_upto_region 23 with (with_reducible refine WA.out _ _ trivial ?_)
          refine wp_letter (fun wx => ∃ g, wr.heap.size = g ∧ Blk wx g 37 (StT.f ⟨A, 0⟩) ∧ Below wr.heap.size wr wx) ⟨_, rfl, Blk.fresh _ _ (StT.f ⟨A, 0⟩), below_alloc (Below.refl _ _) _⟩ ?_
          rintro X ⟨g, eg, bg, hX⟩
          rw [eg]
          replace kc := cell_keep hX kc
          replace cz := cell_keep hX cz
          have c0 := bg.cell 0 _ rfl
          have c1 := bg.cell 1 _ rfl
          have f1 := bg.frozen 1
          clear ba
          by_cases g4 : A = 3
          case' pos =>
            rw [if_pos g4] at hBz
            subst hBz
            subst g4
            go_upto_region 25 with (with_reducible refine WB.out _ _ trivial ?_)
            refine wp_letter (fun wx => ∃ x : StT, x.ok = true ∧ Blk wx g 37 x.f ∧ Below wr.heap.size wr wx) ⟨⟨3, B⟩, HS.out, bg.set 1 _, hX.setCell (Nat.le_of_eq eg) _⟩ ?_
          case' neg =>
            rw [if_neg g4] at hBz
            subst hBz
            go_upto_region 25 with fail
            refine wp_letter (fun wx => ∃ x : StT, x.ok = true ∧ Blk wx g 37 x.f ∧ Below wr.heap.size wr wx) ⟨⟨A, 0⟩, HS.out, bg, hX⟩ ?_
          all_goals
            clear bg hX kc cz c0 c1 f1 WA WB e7 eg HS
            rintro Y ⟨x, hx, bg, hY⟩
            have HX : Hid (x.ok = true) := hx
            have c0 := bg.cell 0 _ rfl
            have c1 := bg.cell 1 _ rfl
            have LS : Hid (Lies 2 StT.f Y (.slice pl ql cl2) ss) := (own_lies StT.len HO.out hql).below hY
            have OY : Hid (Y.ownsRow Wm.heap.size 37 2 (.slice pl ql cl2) ql (ss.flatMap StT.f)) := own_below HO.out hY
            have BY : Hid (Below Wm.heap.size Wm Y) := below_then hB hY
            have hqm : ql ≤ 12 := by have := HSK.out.len; omega
            clear hx
            obtain ⟨kd, rk⟩ := x
            go_wp2
            go_loopw [13, 159] (fun b i wx => ∃ (n : Nat), n ≤ ql ∧ i = .int .i64 n ∧ b = .bool ((ss.take n).any fun y => y.eq ⟨kd, rk⟩) ∧ Below Y.heap.size Y wx) (fun _ i _ => ql - (intOf i).toNat)
            case atStart => exact ⟨0, Nat.zero_le _, rfl, rfl, Below.refl _ _⟩
            case round =>
            obtain ⟨n, hn, rfl, rfl, hZ⟩ := hrel
            by_cases hln : n < ql
            · obtain ⟨b2, o2, y, rfl, hy, hmem, d0, d1⟩ := LS.out.st n hln
              replace d0 := cell_keep hZ d0
              replace d1 := cell_keep hZ d1
              have e : ((ss.take (n + 1)).any fun y => y.eq ⟨kd, rk⟩) = (((ss.take n).any fun y => y.eq ⟨kd, rk⟩) || y.eq ⟨kd, rk⟩) := by
                obtain ⟨hk', rfl⟩ := List.getElem?_eq_some_iff.1 hy
                rw [List.take_succ_eq_append_getElem hk', List.any_append]
                simp
              have HE : Hid (((ss.take (n + 1)).any fun y => y.eq ⟨kd, rk⟩) = (((ss.take n).any fun y => y.eq ⟨kd, rk⟩) || y.eq ⟨kd, rk⟩)) := e
              obtain ⟨ya, yb⟩ := y
              simp only at d0 d1
              have n0 : (0 : Int) ≤ (n : Int) := by omega
              have n1' : (n : Int) < (ql : Int) := by omega
              clear e hy hmem
              go_upto_region 29 with fail
              refine wp_letter (fun wx => ∃ h, wr.heap.size = h ∧ Blk wx h 37 (StT.f ⟨ya, yb⟩) ∧ Below wr.heap.size wr wx) ⟨_, rfl, Blk.fresh _ _ (StT.f ⟨ya, yb⟩), below_alloc (Below.refl _ _) _⟩ ?_
              rintro U ⟨h, eh, bh, hU⟩
              rw [eh]
              clear eh
              have hYU := below_then hZ hU
              have s0 := cell_keep hYU c0
              have s1 := cell_keep hYU c1
              have t0' := bh.cell 0 _ rfl
              have t1' := bh.cell 1 _ rfl
              clear d0 d1 bh hU hZ
              cases hbo : ((ss.take n).any fun y => y.eq ⟨kd, rk⟩) with
              | true =>
                have HT : Hid (((ss.take (n + 1)).any fun y => y.eq ⟨kd, rk⟩) = true) := by show _ = _; rw [HE.out, hbo]; rfl
                clear hbo HE
                go_wp2
                go_roundw
                case rel => exact ⟨n + 1, by omega, by go_num, by rw [HT.out], hYU⟩
                case measure => simp [intOf]; omega
              | false =>
                by_cases g5 : ya = kd ∧ yb = rk
                · have zq : ∀ wx, (Op.equalIn 10000 37 (.agg #[.int .i64 ya, .int .i64 yb]) (.agg #[.int .i64 kd, .int .i64 rk])).run Try.prog wx = .ok true wx := fun wx => by rw [eq_st, decide_eq_true g5]
                  have HT : Hid (((ss.take (n + 1)).any fun y => y.eq ⟨kd, rk⟩) = true) := by show _ = _; rw [HE.out, hbo]; exact decide_eq_true g5
                  clear hbo HE g5
                  go_wp2
                  go_roundw
                  case rel => exact ⟨n + 1, by omega, by go_num, by rw [HT.out], hYU⟩
                  case measure => simp [intOf]; omega
                · have zq : ∀ wx, (Op.equalIn 10000 37 (.agg #[.int .i64 ya, .int .i64 yb]) (.agg #[.int .i64 kd, .int .i64 rk])).run Try.prog wx = .ok false wx := fun wx => by rw [eq_st, decide_eq_false g5]
                  have HT : Hid (((ss.take (n + 1)).any fun y => y.eq ⟨kd, rk⟩) = false) := by show _ = _; rw [HE.out, hbo]; exact decide_eq_false g5
                  clear hbo HE g5
                  go_wp2
                  go_roundw
                  case rel => exact ⟨n + 1, by omega, by go_num, by rw [HT.out], hYU⟩
                  case measure => simp [intOf]; omega
            · obtain rfl : n = ql := by omega
              have et : ss.take n = ss := by rw [← hql, List.take_length]
              rw [et]
              have ON : Hid (wr.ownsRow Wm.heap.size 37 2 (.slice pl n cl2) n (ss.flatMap StT.f)) := own_below OY.out hZ
              have BN : Hid (Below Wm.heap.size Wm wr) := below_then BY.out hZ
              replace c0 := cell_keep hZ c0
              replace c1 := cell_keep hZ c1
              cases hbo : (ss.any fun y => y.eq ⟨kd, rk⟩) with
              | true =>
                clear hbo
                go_wp2
                go_roundw
                case rel => exact ⟨j + 1, ss, by omega, by go_num, HSK.out.skip, by rw [hql]; exact ON.out, BN.out⟩
                case measure => simp [intOf]; omega
              | false =>
                have HNX : Hid (StepsK (j + 1) (ss ++ [⟨kd, rk⟩])) := HSK.out.next HX.out hbo
                clear hbo
                go_wp2_with (refine wpl_append (.tmp 172) (.tmp 174) 26 rfl (fun wx => ∃ E, wr.heap.size = E ∧ wx.ownsRow Wm.heap.size 37 2 (.slice pl n cl2) n (ss.flatMap StT.f) ∧ Blk wx E 37 (StT.f ⟨kd, rk⟩) ∧ Below Wm.heap.size Wm wx) ⟨_, rfl, ON.out.alloc _, Blk.fresh _ _ (StT.f ⟨kd, rk⟩), below_alloc BN.out _⟩ ?_
                             rintro w2 ⟨E, eE, oE, bE, dE⟩
                             rw [eE]
                             have s1 := dE.size
                             refine wpList_append_src rfl (.tmp 172) (.tmp 174) 26 rfl Wm.heap.size 37 m0 (.agg #[.int .i64 0, .int .i64 0]) 2 16 Try.underlying26 hm0' hm0 hm1 hm2 rfl (by decide) (.slice pl n cl2) n (ss.flatMap StT.f) rfl oE (.slice (some ⟨E, 0, none⟩) 1 1) 1 (StT.f ⟨kd, rk⟩) rfl (blk_src bE 1) rfl (StT.one _) (by unfold maxLen; omega) (by omega) s1 ?_
                             intro v2 w3 ow gr _
                             have OW := own_more _ ow
                             have BW := below_grown dE gr (fun k h => (oE.lt k h).1))
                go_roundw
                case rel => exact ⟨j + 1, ss ++ [⟨kd, rk⟩], by omega, by go_num, HNX.out, by rw [List.length_append, hql]; exact OW, BW⟩
                case measure => simp [intOf]; omega
        · rw [decide_eq_false g2]
          have hj12 : j ≤ 12 := hj
          clear g2 kc hj
          by_cases g0 : ss.length = 0
          case' pos =>
            have gq : ql = 0 := by omega
            subst gq
            go_upto_region 35 with fail
            refine wp_letter (fun wx => ∃ g, wr.heap.size = g ∧ stepsP sixS = true ∧ wx.ownsRow Wm.heap.size 37 2 (.slice (some ⟨g, 0, none⟩) 6 6) sixS.length (sixS.flatMap StT.f) ∧ Below Wm.heap.size Wm wx) ⟨_, rfl, sixS_ok, blk_own (Blk.fresh _ _ (sixS.flatMap StT.f)) hB.size rfl (by unfold maxLen; decide), below_alloc hB _⟩ ?_
            rintro Y ⟨g, eg, hs, oY, hY⟩
            rw [eg]
            clear eg
          case' neg =>
            have gq : ¬ ql = 0 := by omega
            have gq2 : ¬ (ql : Int) = 0 := by omega
            go_upto_region 35 with fail
            refine wp_letter (fun wx => stepsP ss = true ∧ wx.ownsRow Wm.heap.size 37 2 (.slice pl ql cl2) ss.length (ss.flatMap StT.f) ∧ Below Wm.heap.size Wm wx) ⟨HSK.out.fin hj12 g0, by rw [hql]; exact HO.out, hB⟩ ?_
            rintro Y ⟨hs, oY, hY⟩
          all_goals
            have HMn : Hid (_) := HM.out.next hY hs oY hlt (by omega) hKG hGK
            have hMY := HM.out.then hY
            have hd := hMY.kd.d
            obtain ⟨vM, eM⟩ : ∃ u, V[m]? = some u := ⟨_, List.getElem?_eq_getElem (by rw [hMY.lenV]; exact hlt)⟩
            have dl : ((NumT.f N2 (.slice (some ⟨gl, 0, none⟩) (kl + 1) cl) nv nilV nilV nilV).take 15 ++ V)[15 + m]? = some vM := by
              rw [List.getElem?_append_right (by show 15 ≤ 15 + m; omega)]
              show V[15 + m - 15]? = _
              rw [Nat.add_sub_cancel_left]
              exact eM
            have cd := hd.cell (15 + m) _ dl
            have fd := hd.frozen (15 + m)
            clear hMY hd dl oY hs eM
            go_wp2
            go_roundw
            case rel => exact ⟨m + 1, _, _, by omega, by go_num, HMn.out⟩
            case measure => simp [intOf]; omega
      · obtain rfl : m = 3 := by omega
        obtain ⟨va3, vb3, vc3, s0, s1, s2, rfl, p0, p1, p2, o0, o1, o2, pab, pac, pbc⟩ := HM.out.all
        obtain ⟨a1, a2, a3, rfl⟩ := own_slice o0
        obtain ⟨b1, b2, b3, rfl⟩ := own_slice o1
        obtain ⟨c1, c2, c3, rfl⟩ := own_slice o2
        obtain ⟨q1, q2, q3, rfl⟩ := own_slice HM.out.on
        have bG : Blk wr G 29 (N2.f (.slice (some ⟨gl, 0, none⟩) (kl + 1) cl) (.slice q1 q2 q3) (.slice a1 a2 a3) (.slice b1 b2 b3) (.slice c1 c2 c3)) := HM.out.kd.d
        have bR := HM.out.kd.r
        have hOK := made_ok (s0 := s0) (s1 := s1) (s2 := s2) TO hLK hkl (by rw [hP]; exact HNK.out) hk1 p0 p1 p2
        have DO : DealOwn (G + 1) wr (.slice (some ⟨gl, 0, none⟩) (kl + 1) cl) (.slice q1 q2 q3) (.slice a1 a2 a3) (.slice b1 b2 b3) (.slice c1 c2 c3) ⟨N2, loans99 xs, ys, s0, s1, s2⟩ :=
          ⟨by rw [HLn]; exact HM.out.ol, by rw [HNK.out.len]; exact HM.out.on, o0, o1, o2, pab, pac, pbc⟩
        have hBw := HM.out.kd.below
        obtain ⟨nyr, nmo, nba, nfe, nre, nta, nad, ncu, nt0, nt1, nt2, nt3, nt4⟩ := N2
        clear HM p0 p1 p2 o0 o1 o2 pab pac pbc
        go_wp2_with (first
          | (refine wpList_load_row rfl 29 (.tmp 3) rfl G rfl 29 #[.int .i64 nyr, .int .i64 nmo, .int .i64 nba, .slice (some ⟨gl, 0, none⟩) (kl + 1) cl, .slice q1 q2 q3, .int .i64 nfe, .int .i64 nre, .int .i64 nta, .int .i64 nad, .int .i64 ncu, .int .i64 nt0, .int .i64 nt1, .int .i64 nt2, .int .i64 nt3, .int .i64 nt4, .slice a1 a2 a3, .slice b1 b2 b3, .slice c1 c2 c3] (0, 0) _ bG Try.underlying29 rfl Try.size_deal ?_)
          | (refine wpList_store_mid rfl 29 (.tmp 2) (.tmp 191) rfl R 0 #[.int .i64 nyr, .int .i64 nmo, .int .i64 nba, .slice (some ⟨gl, 0, none⟩) (kl + 1) cl, .slice q1 q2 q3, .int .i64 nfe, .int .i64 nre, .int .i64 nta, .int .i64 nad, .int .i64 ncu, .int .i64 nt0, .int .i64 nt1, .int .i64 nt2, .int .i64 nt3, .int .i64 nt4, .slice a1 a2 a3, .slice b1 b2 b3, .slice c1 c2 c3] rfl rfl (bR.there 0 18 (by decide)) Try.size_deal (all_oneCell_toArray (cs := NumT.f ⟨nyr, nmo, nba, nfe, nre, nta, nad, ncu, nt0, nt1, nt2, nt3, nt4⟩ (.slice (some ⟨gl, 0, none⟩) (kl + 1) cl) (.slice q1 q2 q3) (.slice a1 a2 a3) (.slice b1 b2 b3) (.slice c1 c2 c3)) (NumT.one _ rfl rfl rfl rfl rfl)) ?_))
        have hs := Rest.setCells R (NumT.f ⟨nyr, nmo, nba, nfe, nre, nta, nad, ncu, nt0, nt1, nt2, nt3, nt4⟩ (.slice (some ⟨gl, 0, none⟩) (kl + 1) cl) (.slice q1 q2 q3) (.slice a1 a2 a3) (.slice b1 b2 b3) (.slice c1 c2 c3)) 0 wr
        refine post_letter (fun wx => Blk wx R 29 (NumT.f ⟨nyr, nmo, nba, nfe, nre, nta, nad, ncu, nt0, nt1, nt2, nt3, nt4⟩ (.slice (some ⟨gl, 0, none⟩) (kl + 1) cl) (.slice q1 q2 q3) (.slice a1 a2 a3) (.slice b1 b2 b3) (.slice c1 c2 c3)) ∧ DealOwn (G + 1) wx (.slice (some ⟨gl, 0, none⟩) (kl + 1) cl) (.slice q1 q2 q3) (.slice a1 a2 a3) (.slice b1 b2 b3) (.slice c1 c2 c3) ⟨⟨nyr, nmo, nba, nfe, nre, nta, nad, ncu, nt0, nt1, nt2, nt3, nt4⟩, loans99 xs, ys, s0, s1, s2⟩ ∧ Below w.heap.size w wx)
          ⟨bR.over rfl, DO.above hs (by omega), hs.below hBw (by omega) hBw.size⟩ ?_
        rintro X9 ⟨bX, dX, hX9⟩
        exact ret_deal rfl rfl rfl bX rfl ⟨_, _, _, _, _, ⟨⟨nyr, nmo, nba, nfe, nre, nta, nad, ncu, nt0, nt1, nt2, nt3, nt4⟩, loans99 xs, ys, s0, s1, s2⟩, rfl, hOK, dX.low (by omega), hX9⟩
end Go.Proofs.Ytamdmicdieeolaa
