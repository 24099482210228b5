/-
  The walk of DealTurned.
-/
import Derived.Test.YtamdmicdieeolaaDealArg
import Derived.Test.YtamdmicdieeolaaTurnW
import Derived.Test.YtamdmicdieeolaaDealRunsWalk
import Derived.Test.YtamdmicdieeolaaDealDeals
namespace Go.Proofs.Ytamdmicdieeolaa
open Go.RowKit

theorem take_sum : ∀ (zs : List Int), (∀ z ∈ zs, 0 ≤ z) → ∀ k, 0 ≤ (zs.take k).sum ∧ (zs.take k).sum ≤ zs.sum
  | [], _, k => by simp
  | z :: r, h, 0 => by
    have := (take_sum r (fun y hy => h y (by simp [hy])) r.length)
    rw [List.take_length] at this
    have := h z (by simp)
    rw [List.take_zero, List.sum_nil, List.sum_cons]
    omega
  | z :: r, h, k + 1 => by
    have := take_sum r (fun y hy => h y (by simp [hy])) k
    have := h z (by simp)
    rw [List.take_succ_cons, List.sum_cons, List.sum_cons]
    omega
theorem take_next (zs : List Int) (k : Nat) (z : Int) (h : zs[k]? = some z) : (zs.take (k + 1)).sum = (zs.take k).sum + z := by
  obtain ⟨hk, rfl⟩ := List.getElem?_eq_some_iff.1 h
  rw [List.take_succ_eq_append_getElem hk, List.sum_append]
  simp only [List.sum_cons, List.sum_nil, Int.add_zero]
set_option maxRecDepth 1000000 in
set_option maxHeartbeats 16000000 in
theorem dealTurned_any (v0 : Value) (what by0 : Int) (w : World) (h : DealKIn w v0) :
    Calls Try.prog 5 #[v0, .int .i64 what, .int .i64 by0] w fun e w' => e = .returned (.bool true) ∧ Below w.heap.size w w' := by
  have hk := h
  obtain ⟨t, vl, vn, vr, vt, va, vb, vc, _, _, _, _, _, _, _, rfl, _⟩ := h
  obtain ⟨yr, mo, ba, fe, re, ta, ad, cu, t0, t1, t2, t3, t4⟩ := t
  unfold NumT.k at hk ⊢
  simp only at hk ⊢
  have SK : (Try.prog.info? 43).map (·.size) = some (20 : Nat) := by kernel_rfl
  have P1 : Hid (∀ (wx : World) (R : Ending → World → Prop), Below w.heap.size w wx → (∀ l n a b c d w', d.ok = true → DealOwn wx.heap.size w' l n a b c d → Below wx.heap.size wx w' → R (.returned (d.t.v l n a b c)) w') → Calls Try.prog 12 #[.agg #[.int .i64 yr, .int .i64 mo, .int .i64 ba, .int .i64 fe, .int .i64 re, .int .i64 ta, .int .i64 ad, .int .i64 cu, .int .i64 t0, .int .i64 t1, .int .i64 t2, .int .i64 t3, .int .i64 t4, vl, vn, vr, vt, va, vb, vc]] wx R) := fun wx R bx k => (dealK_any _ wx (hk.below bx)).mono (by rintro e w' ⟨l, n, a, b, c, d, rfl, ok, o, dd⟩; exact k l n a b c d w' ok o dd)
  obtain ⟨N, hN⟩ : ∃ A, 0 + what % (17 - 0 + 1) = A := ⟨_, rfl⟩
  have bN := win_in what 0 17 (by omega)
  rw [hN] at bN
  obtain ⟨B0, hB0⟩ : ∃ A, 0 + by0 % (1099511627776 - 0 + 1) = A := ⟨_, rfl⟩
  have bB := win_in by0 0 1099511627776 (by omega)
  rw [hB0] at bB
  have WN : Hid (∀ (wx : World) (R : Ending → World → Prop), True → R (.returned (.int .i64 N)) wx → Calls Try.prog 15 #[.int .i64 what, .int .i64 0, .int .i64 17] wx R) := fun wx R _ h => (win_at (by omega) (by omega) (by omega) (by omega) hN wx).mono (by rintro e w' ⟨rfl, rfl⟩; exact h)
  have WB : Hid (∀ (wx : World) (R : Ending → World → Prop), True → R (.returned (.int .i64 B0)) wx → Calls Try.prog 15 #[.int .i64 by0, .int .i64 0, .int .i64 1099511627776] wx R) := fun wx R _ h => (win_at (by omega) (by omega) (by omega) (by omega) hB0 wx).mono (by rintro e w' ⟨rfl, rfl⟩; exact h)
  clear hN hB0 hk
  go_enter Try.func5, Try.ntmps5
  go_upto_region 1 with fail
  refine wp_letter (fun wx => ∃ K, w.heap.size = K ∧ Blk wx K 43 (NumT.k ⟨yr, mo, ba, fe, re, ta, ad, cu, t0, t1, t2, t3, t4⟩ vl vn vr vt va vb vc) ∧ Below w.heap.size w wx) ⟨_, rfl, Blk.fresh _ _ (NumT.k ⟨yr, mo, ba, fe, re, ta, ad, cu, t0, t1, t2, t3, t4⟩ vl vn vr vt va vb vc), below_alloc (Below.refl _ _) _⟩ ?_
  rintro W ⟨K, eK, bK, hW⟩
  rw [eK]
  clear eK
  go_upto_region 2 with (first
    | (refine wpList_load_row rfl 43 (.tmp 3) rfl K rfl 43 #[.int .i64 yr, .int .i64 mo, .int .i64 ba, .int .i64 fe, .int .i64 re, .int .i64 ta, .int .i64 ad, .int .i64 cu, .int .i64 t0, .int .i64 t1, .int .i64 t2, .int .i64 t3, .int .i64 t4, vl, vn, vr, vt, va, vb, vc] (0, 0) _ bK Try.underlying43 rfl SK ?_)
    | (with_reducible refine P1.out _ _ hW (fun l n a b c d w1 ok O1 d1 => ?_))
    | (refine wpl_box_deal (.tmp 7) (.tmp 17) rfl rfl d.t l n a b c _ rfl rfl rfl (own_one O1.ls) (own_one O1.ns) (own_one O1.s0) (own_one O1.s1) (own_one O1.s2) (fun X bD dX => ?_)))
  obtain ⟨G, eG⟩ : ∃ G, w1.heap.size = G := ⟨_, rfl⟩
  have hGw : w.heap.size ≤ G := by have := hW.size; have := d1.size; omega
  have hX := below_then hW (below_then d1 dX)
  have DI := (O1.then dX).in
  have hlen := DealT.ok_lens ok
  obtain ⟨sl, sn, _, _, _, _⟩ := DealT.ok_sums ok
  obtain ⟨gl, cl, rfl, _, _, _⟩ := own_form O1.ls (by omega)
  obtain ⟨gn, cn, rfl, _, _, _⟩ := own_form O1.ns (by omega)
  obtain ⟨a1, a2, a3, rfl⟩ := own_slice O1.s0
  obtain ⟨b1, b2, b3, rfl⟩ := own_slice O1.s1
  obtain ⟨c1, c2, c3, rfl⟩ := own_slice O1.s2
  obtain ⟨nl, hnl⟩ : ∃ k, d.ls.length = k := ⟨_, rfl⟩
  obtain ⟨nn, hnn⟩ : ∃ k, d.ns.length = k := ⟨_, rfl⟩
  obtain ⟨t', ht⟩ : ∃ t, d.t = t := ⟨_, rfl⟩
  have e1 : ∀ wx, Below X.heap.size X wx → Calls Try.prog 8 #[d.t.v (.slice (some ⟨gl, 0, none⟩) d.ls.length cl) (.slice (some ⟨gn, 0, none⟩) d.ns.length cn) (.slice a1 a2 a3) (.slice b1 b2 b3) (.slice c1 c2 c3)] wx fun e w' => e = .returned (.bool true) ∧ Below wx.heap.size wx w' := fun wx k => by rw [← ok]; exact dright_any _ _ _ _ _ d wx (DI.below k)
  rw [eG, hnl, hnn, ht] at bD ⊢
  rw [hnl, hnn, ht] at e1
  obtain ⟨ayr, amo, aba, afe, are, ata, aad, acu, at0, at1, at2, at3, at4⟩ := t'
  unfold NumT.v at e1 ⊢
  simp only at e1 ⊢
  have R1 : Hid (∀ (wx : World) (R : Ending → World → Prop), Below X.heap.size X wx → (∀ w', Below wx.heap.size wx w' → R (.returned (.bool true)) w') → Calls Try.prog 8 #[.agg #[.int .i64 ayr, .int .i64 amo, .int .i64 aba, .slice (some ⟨gl, 0, none⟩) nl cl, .slice (some ⟨gn, 0, none⟩) nn cn, .int .i64 afe, .int .i64 are, .int .i64 ata, .int .i64 aad, .int .i64 acu, .int .i64 at0, .int .i64 at1, .int .i64 at2, .int .i64 at3, .int .i64 at4, .slice a1 a2 a3, .slice b1 b2 b3, .slice c1 c2 c3]] wx R) := fun wx R k h => (e1 wx k).mono (by rintro e w' ⟨rfl, d⟩; exact h w' d)
  have hB : Below X.heap.size X X := Below.refl _ _
  clear O1 d1 dX eG P1 bK SK hW e1
  go_upto_region 5 with (first
    | (refine wpList_load_row rfl 29 (.tmp 7) rfl G rfl 29 #[.int .i64 ayr, .int .i64 amo, .int .i64 aba, .slice (some ⟨gl, 0, none⟩) nl cl, .slice (some ⟨gn, 0, none⟩) nn cn, .int .i64 afe, .int .i64 are, .int .i64 ata, .int .i64 aad, .int .i64 acu, .int .i64 at0, .int .i64 at1, .int .i64 at2, .int .i64 at3, .int .i64 at4, .slice a1 a2 a3, .slice b1 b2 b3, .slice c1 c2 c3] (0, 0) _ bD Try.underlying29 rfl Try.size_deal ?_)
    | (with_reducible refine R1.out _ _ hB (fun w2 bn => ?_); replace hB := below_then hB bn))
  obtain ⟨_, _, pl, pn, q40, qle⟩ := DealT.ok_sums ok
  obtain ⟨SL, hSL⟩ : ∃ S, (d.ls.map LnT.bal).sum = S := ⟨_, rfl⟩
  obtain ⟨SN, hSN⟩ : ∃ S, (d.ns.map TrT.og).sum = S := ⟨_, rfl⟩
  have HL : Hid (d.lent = some SL) := by show _ = _; rw [(DealT.ok_sums ok).1, hSL]
  rw [hSL] at q40 qle
  rw [hSN] at qle
  have TL : Hid (∀ k, 0 ≤ ((d.ls.map LnT.bal).take k).sum ∧ ((d.ls.map LnT.bal).take k).sum ≤ SL) := fun k => by
    have := take_sum (d.ls.map LnT.bal) (fun z hz => by obtain ⟨x, hx, rfl⟩ := List.mem_map.1 hz; exact pl x hx) k
    rw [hSL] at this
    exact this
  have TN : Hid (∀ k, 0 ≤ ((d.ns.map TrT.og).take k).sum ∧ ((d.ns.map TrT.og).take k).sum ≤ SN) := fun k => by
    have := take_sum (d.ns.map TrT.og) (fun z hz => by obtain ⟨x, hx, rfl⟩ := List.mem_map.1 hz; exact pn x hx) k
    rw [hSN] at this
    exact this
  have PSL : Hid (0 ≤ SL) := by have := TL.out 0; show 0 ≤ SL; omega
  have EL : Hid (((d.ls.map LnT.bal).take nl).sum = SL) := by show _ = _; rw [← hnl, ← List.length_map (f := LnT.bal), List.take_length, hSL]
  have EN : Hid (((d.ns.map TrT.og).take nn).sum = SN) := by show _ = _; rw [← hnn, ← List.length_map (f := TrT.og), List.take_length, hSN]
  have NL : Hid (∀ k x, d.ls[k]? = some x → ((d.ls.map LnT.bal).take (k + 1)).sum = ((d.ls.map LnT.bal).take k).sum + x.bal) := fun k x hx => take_next _ k _ (by rw [List.getElem?_map, hx]; rfl)
  have NN : Hid (∀ k x, d.ns[k]? = some x → ((d.ns.map TrT.og).take (k + 1)).sum = ((d.ns.map TrT.og).take k).sum + x.og) := fun k x hx => take_next _ k _ (by rw [List.getElem?_map, hx]; rfl)
  have DIY : Hid (DealIn w2 (.slice (some ⟨gl, 0, none⟩) nl cl) (.slice (some ⟨gn, 0, none⟩) nn cn) (.slice a1 a2 a3) (.slice b1 b2 b3) (.slice c1 c2 c3) d) := by
    have := DI.below hB
    rw [hnl, hnn] at this
    exact this
  have bY := bD.then hB
  have hYw := below_then hX hB
  have y3 := bY.cell 3 _ rfl
  have hln : nl ≤ 64 ∧ nn ≤ 8 := by omega
  have HP : Hid (d.pool = SL) := by show _ = _; unfold DealT.pool; rw [ok, (DealT.ok_sums ok).1, hSL]; rfl
  have HQ : Hid (d.notes = SN) := by show _ = _; unfold DealT.notes; rw [ok, (DealT.ok_sums ok).2.1, hSN]; rfl
  have HT : Hid (d.t = ⟨ayr, amo, aba, afe, are, ata, aad, acu, at0, at1, at2, at3, at4⟩) := ht
  clear DI bD hB hX pl pn hSL hSN R1
  go_wp2
  go_loopw [8, 24] (fun s i wr => ∃ (k : Nat) (S : Int), k ≤ nl ∧ i = .int .i64 k ∧ s = .int .i64 S ∧ ((d.ls.map LnT.bal).take k).sum = S ∧ Below w2.heap.size w2 wr) (fun _ i _ => nl - (intOf i).toNat)
  case atStart => exact ⟨0, 0, Nat.zero_le _, rfl, rfl, rfl, Below.refl _ _⟩
  case round =>
  obtain ⟨k, S, hk, rfl, rfl, eS, hB⟩ := hrel
  have hs := TL.out k
  rw [eS] at hs
  by_cases hlt : k < nl
  · obtain ⟨b, off, x, hb, hx, hmem, c0, c1⟩ := DIY.out.ls.ln k hlt
    simp only [Option.some.injEq, Addr.mk.injEq, and_true] at hb
    obtain ⟨rfl, rfl⟩ := hb
    replace c0 := cell_keep hB c0
    replace c1 := cell_keep hB c1
    have h1 := TL.out (k + 1)
    have h2 := NL.out k x hx
    rw [eS] at h2
    have HX : Hid (((d.ls.map LnT.bal).take (k + 1)).sum = S + x.bal) := h2
    rw [h2] at h1
    obtain ⟨id, bal⟩ := x
    simp only [Nat.zero_add] at c0 c1 h1 HX
    have k0 : (0 : Int) ≤ (k : Int) := by omega
    have k1 : (k : Int) < (nl : Int) := by omega
    clear h2 hx hmem y3
    go_wp2
    go_roundw
    case rel => exact ⟨k + 1, S + bal, by omega, by go_num, rfl, HX.out, below_alloc hB _⟩
    case measure => simp [intOf]; omega
  · obtain rfl : k = nl := by omega
    rw [EL.out] at eS
    subst eS
    have hZw := below_then hYw hB
    have bZ := bY.then hB
    have DIZ : Hid (DealIn wr (.slice (some ⟨gl, 0, none⟩) k cl) (.slice (some ⟨gn, 0, none⟩) nn cn) (.slice a1 a2 a3) (.slice b1 b2 b3) (.slice c1 c2 c3) d) := DIY.out.below hB
    obtain ⟨Z, hZ⟩ : ∃ Z, Z = wr := ⟨_, rfl⟩
    subst hZ
    have y4 := bZ.cell 4 _ rfl
    clear hB bY DIY hs hlt hk y3 TL NL EL hYw
    go_wp2
    go_loopw [9, 36] (fun s i wx => ∃ (j : Nat) (S : Int), j ≤ nn ∧ i = .int .i64 j ∧ s = .int .i64 S ∧ ((d.ns.map TrT.og).take j).sum = S ∧ Below Z.heap.size Z wx) (fun _ i _ => nn - (intOf i).toNat)
    case atStart => exact ⟨0, 0, Nat.zero_le _, rfl, rfl, rfl, Below.refl _ _⟩
    case round =>
    obtain ⟨j, S, hj, rfl, rfl, eS, hB⟩ := hrel
    have hs := TN.out j
    rw [eS] at hs
    by_cases hlt : j < nn
    · obtain ⟨b, off, x, hb, hx, hmem, c0, c1, c2'⟩ := DIZ.out.ns.tr j hlt
      simp only [Option.some.injEq, Addr.mk.injEq, and_true] at hb
      obtain ⟨rfl, rfl⟩ := hb
      replace c0 := cell_keep hB c0
      replace c1 := cell_keep hB c1
      replace c2' := cell_keep hB c2'
      have h1 := TN.out (j + 1)
      have h2 := NN.out j x hx
      rw [eS] at h2
      have HX : Hid (((d.ns.map TrT.og).take (j + 1)).sum = S + x.og) := h2
      rw [h2] at h1
      obtain ⟨rk, og, rt⟩ := x
      simp only [Nat.zero_add] at c0 c1 c2' h1 HX
      have k0 : (0 : Int) ≤ (j : Int) := by omega
      have k1 : (j : Int) < (nn : Int) := by omega
      clear h2 hx hmem y4
      go_wp2
      go_roundw
      case rel => exact ⟨j + 1, S + og, by omega, by go_num, rfl, HX.out, below_alloc hB _⟩
      case measure => simp [intOf]; omega
    · obtain rfl : j = nn := by omega
      rw [EN.out] at eS
      subst eS
      clear hs y4 TN NN EN hlt hj
      have hVw := below_then hZw hB
      have bV := bZ.then hB
      have DIV : Hid (DealIn wr (.slice (some ⟨gl, 0, none⟩) k cl) (.slice (some ⟨gn, 0, none⟩) j cn) (.slice a1 a2 a3) (.slice b1 b2 b3) (.slice c1 c2 c3) d) := DIZ.out.below hB
      obtain ⟨V, hV⟩ : ∃ V, V = wr := ⟨_, rfl⟩
      subst hV
      have bVV := bV
      clear hB bZ DIZ hZw
      have hB : Below V.heap.size V V := Below.refl _ _
      have hmo : ∀ q, (d.mode q).length ≤ 1000 := fun q => by
        obtain ⟨m0, m1, m2⟩ := DealT.ok_modes ok
        have a0 := ((stepsP_iff _).1 m0).1
        have a1 := ((stepsP_iff _).1 m1).1
        have a2 := ((stepsP_iff _).1 m2).1
        unfold DealT.mode
        split
        · omega
        · split <;> omega
      have PP : Hid (∀ (wx : World) (R : Ending → World → Prop), Below V.heap.size V wx → (∀ w', Below wx.heap.size wx w' → R (.returned (.int .i64 SL)) w') → Calls Try.prog 9 #[.agg #[.int .i64 ayr, .int .i64 amo, .int .i64 aba, .slice (some ⟨gl, 0, none⟩) k cl, .slice (some ⟨gn, 0, none⟩) j cn, .int .i64 afe, .int .i64 are, .int .i64 ata, .int .i64 aad, .int .i64 acu, .int .i64 at0, .int .i64 at1, .int .i64 at2, .int .i64 at3, .int .i64 at4, .slice a1 a2 a3, .slice b1 b2 b3, .slice c1 c2 c3]] wx R) := fun wx R b h => by
        have := pool_any _ _ _ _ _ d wx (DIV.out.below b)
        rw [HT.out, HP.out] at this
        exact this.mono (by rintro e w' ⟨rfl, d⟩; exact h w' d)
      have PQ : Hid (∀ (wx : World) (R : Ending → World → Prop), Below V.heap.size V wx → (∀ w', Below wx.heap.size wx w' → R (.returned (.int .i64 SN)) w') → Calls Try.prog 10 #[.agg #[.int .i64 ayr, .int .i64 amo, .int .i64 aba, .slice (some ⟨gl, 0, none⟩) k cl, .slice (some ⟨gn, 0, none⟩) j cn, .int .i64 afe, .int .i64 are, .int .i64 ata, .int .i64 aad, .int .i64 acu, .int .i64 at0, .int .i64 at1, .int .i64 at2, .int .i64 at3, .int .i64 at4, .slice a1 a2 a3, .slice b1 b2 b3, .slice c1 c2 c3]] wx R) := fun wx R b h => by
        have := notes_any _ _ _ _ _ d wx (DIV.out.below b)
        rw [HT.out, HQ.out] at this
        exact this.mono (by rintro e w' ⟨rfl, d⟩; exact h w' d)
      have PC : Hid (∀ (wx : World) (R : Ending → World → Prop), Below V.heap.size V wx → (∀ l' n' a' b' c' w', DealOwn wx.heap.size w' l' n' a' b' c' d → Below wx.heap.size wx w' → R (.returned (NumT.v ⟨ayr, amo, aba, afe, are, ata, aad, acu, at0, at1, at2, at3, at4⟩ l' n' a' b' c')) w') → Calls Try.prog 14 #[.agg #[.int .i64 ayr, .int .i64 amo, .int .i64 aba, .slice (some ⟨gl, 0, none⟩) k cl, .slice (some ⟨gn, 0, none⟩) j cn, .int .i64 afe, .int .i64 are, .int .i64 ata, .int .i64 aad, .int .i64 acu, .int .i64 at0, .int .i64 at1, .int .i64 at2, .int .i64 at3, .int .i64 at4, .slice a1 a2 a3, .slice b1 b2 b3, .slice c1 c2 c3]] wx R) := fun wx R b h => by
        have := copy_any _ _ _ _ _ d wx (DIV.out.below b) (by omega) (by omega) hmo
        rw [HT.out] at this
        exact this.mono (by rintro e w' ⟨l', n', a', b', c', rfl, o, d⟩; exact h l' n' a' b' c' w' o d)
      clear hmo
      go_upto_region 17 with (first
        | (refine wpList_load_row rfl 29 (.tmp 7) rfl G rfl 29 #[.int .i64 ayr, .int .i64 amo, .int .i64 aba, .slice (some ⟨gl, 0, none⟩) k cl, .slice (some ⟨gn, 0, none⟩) j cn, .int .i64 afe, .int .i64 are, .int .i64 ata, .int .i64 aad, .int .i64 acu, .int .i64 at0, .int .i64 at1, .int .i64 at2, .int .i64 at3, .int .i64 at4, .slice a1 a2 a3, .slice b1 b2 b3, .slice c1 c2 c3] (0, 0) _ bV Try.underlying29 rfl Try.size_deal ?_)
        | (refine wpList_load_met (by rfl) 29 (.tmp 7) rfl G rfl 29 #[.int .i64 ayr, .int .i64 amo, .int .i64 aba, .slice (some ⟨gl, 0, none⟩) k cl, .slice (some ⟨gn, 0, none⟩) j cn, .int .i64 afe, .int .i64 are, .int .i64 ata, .int .i64 aad, .int .i64 acu, .int .i64 at0, .int .i64 at1, .int .i64 at2, .int .i64 at3, .int .i64 at4, .slice a1 a2 a3, .slice b1 b2 b3, .slice c1 c2 c3] (0, 0) _ bV Try.underlying29 rfl Try.size_deal ?_)
        | (with_reducible refine PP.out _ _ hB (fun w3 bn => ?_); replace hB := below_then hB bn; replace bV := bV.then bn)
        | (with_reducible refine PQ.out _ _ hB (fun w4 bn => ?_); replace hB := below_then hB bn; replace bV := bV.then bn))
      go_upto_region 18 with (first
        | (refine wpList_load_row rfl 29 (.tmp 7) rfl G rfl 29 #[.int .i64 ayr, .int .i64 amo, .int .i64 aba, .slice (some ⟨gl, 0, none⟩) k cl, .slice (some ⟨gn, 0, none⟩) j cn, .int .i64 afe, .int .i64 are, .int .i64 ata, .int .i64 aad, .int .i64 acu, .int .i64 at0, .int .i64 at1, .int .i64 at2, .int .i64 at3, .int .i64 at4, .slice a1 a2 a3, .slice b1 b2 b3, .slice c1 c2 c3] (0, 0) _ bV Try.underlying29 rfl Try.size_deal ?_)
        | (with_reducible refine PC.out _ _ hB (fun l' n' a' b' c' w5 O5 d5 => ?_))
        | (refine wpl_box_deal (.tmp 14) (.tmp 61) rfl rfl ⟨ayr, amo, aba, afe, are, ata, aad, acu, at0, at1, at2, at3, at4⟩ l' n' a' b' c' _ rfl rfl rfl (own_one O5.ls) (own_one O5.ns) (own_one O5.s0) (own_one O5.s1) (own_one O5.s2) (fun X6 bC d6 => ?_)))
      have hm := DealT.ok_modes ok
      have la := ((stepsP_iff _).1 hm.1).1
      have lb := ((stepsP_iff _).1 hm.2.1).1
      obtain ⟨m0, hm0⟩ : ∃ k, d.s0.length = k := ⟨_, rfl⟩
      obtain ⟨m1, hm1⟩ : ∃ k, d.s1.length = k := ⟨_, rfl⟩
      obtain ⟨H, eH⟩ : ∃ H, w5.heap.size = H := ⟨_, rfl⟩
      have OC := O5.then d6
      have B6 := below_then hB (below_then d5 d6)
      have bV6 := bV.then (below_then d5 d6)
      have gV := bV.lt
      have gH : G < H := by have := d5.size; omega
      obtain ⟨hl, dl, rfl, _, _, _⟩ := own_form O5.ls (by omega)
      obtain ⟨hn, dn, rfl, _, _, _⟩ := own_form O5.ns (by omega)
      obtain ⟨ha, da, rfl, _, _, _⟩ := own_form O5.s0 (by omega)
      obtain ⟨hb, db, rfl, _, _, _⟩ := own_form O5.s1 (by omega)
      obtain ⟨x1, x2, x3, rfl⟩ := own_slice O5.s2
      have sV : V.heap.size ≤ H := by have := below_then hB d5; have := this.size; omega
      have bw := OC.low (show V.heap.size ≤ _ by have := hB.size; omega)
      rw [eH, hnl, hnn, hm0, hm1] at bC ⊢
      rw [hnl, hnn, hm0, hm1] at bw
      have D6 : Hid (DealIn X6 (.slice (some ⟨gl, 0, none⟩) k cl) (.slice (some ⟨gn, 0, none⟩) j cn) (.slice a1 a2 a3) (.slice b1 b2 b3) (.slice c1 c2 c3) d) := DIV.out.below B6
      have C6 : Hid (DealOwn V.heap.size X6 (.slice (some ⟨hl, 0, none⟩) k dl) (.slice (some ⟨hn, 0, none⟩) j dn) (.slice (some ⟨ha, 0, none⟩) m0 da) (.slice (some ⟨hb, 0, none⟩) m1 db) (.slice x1 x2 x3) d) := bw
      have BVH : Hid (Blk V G 29 (NumT.f ⟨ayr, amo, aba, afe, are, ata, aad, acu, at0, at1, at2, at3, at4⟩ (.slice (some ⟨gl, 0, none⟩) k cl) (.slice (some ⟨gn, 0, none⟩) j cn) (.slice a1 a2 a3) (.slice b1 b2 b3) (.slice c1 c2 c3))) := bVV
      have B6H : Hid (Below V.heap.size V X6) := B6
      clear O5 d5 d6 OC B6 bV hB bw PP PQ PC eH bVV
      have hB : Below X6.heap.size X6 X6 := Below.refl _ _
      have R2 : Hid (∀ (wx : World) (R : Ending → World → Prop), Below X6.heap.size X6 wx → (∀ w', Below wx.heap.size wx w' → R (.returned (.bool true)) w') → Calls Try.prog 8 #[.agg #[.int .i64 ayr, .int .i64 amo, .int .i64 aba, .slice (some ⟨hl, 0, none⟩) k dl, .slice (some ⟨hn, 0, none⟩) j dn, .int .i64 afe, .int .i64 are, .int .i64 ata, .int .i64 aad, .int .i64 acu, .int .i64 at0, .int .i64 at1, .int .i64 at2, .int .i64 at3, .int .i64 at4, .slice (some ⟨ha, 0, none⟩) m0 da, .slice (some ⟨hb, 0, none⟩) m1 db, .slice x1 x2 x3]] wx R) := fun wx R b h => by
        have := dright_any _ _ _ _ _ d wx (C6.out.in.below b)
        rw [HT.out, ok] at this
        exact this.mono (by rintro e w' ⟨rfl, d⟩; exact h w' d)
      have R3 : Hid (∀ (wx : World) (R : Ending → World → Prop), Below X6.heap.size X6 wx → (∀ w', Below wx.heap.size wx w' → R (.returned (.bool true)) w') → Calls Try.prog 16 #[.agg #[.int .i64 ayr, .int .i64 amo, .int .i64 aba, .slice (some ⟨hl, 0, none⟩) k dl, .slice (some ⟨hn, 0, none⟩) j dn, .int .i64 afe, .int .i64 are, .int .i64 ata, .int .i64 aad, .int .i64 acu, .int .i64 at0, .int .i64 at1, .int .i64 at2, .int .i64 at3, .int .i64 at4, .slice (some ⟨ha, 0, none⟩) m0 da, .slice (some ⟨hb, 0, none⟩) m1 db, .slice x1 x2 x3], .agg #[.int .i64 ayr, .int .i64 amo, .int .i64 aba, .slice (some ⟨gl, 0, none⟩) k cl, .slice (some ⟨gn, 0, none⟩) j cn, .int .i64 afe, .int .i64 are, .int .i64 ata, .int .i64 aad, .int .i64 acu, .int .i64 at0, .int .i64 at1, .int .i64 at2, .int .i64 at3, .int .i64 at4, .slice a1 a2 a3, .slice b1 b2 b3, .slice c1 c2 c3]] wx R) := fun wx R b h => by
        have := deals_any _ _ _ _ _ _ _ _ _ _ d wx (C6.out.in.below b) (D6.out.below b)
        rw [HT.out] at this
        exact this.mono (by rintro e w' ⟨rfl, d⟩; exact h w' d)
      have nz1 : ¬ k = 0 := by omega
      have nz2 : ¬ j = 0 := by omega
      have nz3 : ¬ m0 = 0 := by omega
      have nz4 : ¬ m1 = 0 := by omega
      have bz1 : ((k : Int) == 0) = false := beq_eq_false_iff_ne.2 (by omega)
      have bz2 : ((j : Int) == 0) = false := beq_eq_false_iff_ne.2 (by omega)
      have bz3 : ((m0 : Int) == 0) = false := beq_eq_false_iff_ne.2 (by omega)
      have bz4 : ((m1 : Int) == 0) = false := beq_eq_false_iff_ne.2 (by omega)
      go_upto_region 19 with (with_reducible refine WB.out _ _ trivial ?_)
      have hu3 := bC.cell 3 _ rfl; have hu4 := bC.cell 4 _ rfl; have hu15 := bC.cell 15 _ rfl; have hu16 := bC.cell 16 _ rfl
      go_cut [99] (fun c wx => c = .bool false ∧ Below X6.heap.size X6 wx)
      case first =>
        as_aux_lemma =>
          go_wp2_with (first
            | (refine wpList_load_row rfl 29 (.tmp 14) rfl H rfl 29 #[.int .i64 ayr, .int .i64 amo, .int .i64 aba, .slice (some ⟨hl, 0, none⟩) k dl, .slice (some ⟨hn, 0, none⟩) j dn, .int .i64 afe, .int .i64 are, .int .i64 ata, .int .i64 aad, .int .i64 acu, .int .i64 at0, .int .i64 at1, .int .i64 at2, .int .i64 at3, .int .i64 at4, .slice (some ⟨ha, 0, none⟩) m0 da, .slice (some ⟨hb, 0, none⟩) m1 db, .slice x1 x2 x3] (0, 0) _ bC Try.underlying29 rfl Try.size_deal ?_)
            | (refine wpList_load_met (by rfl) 29 (.tmp 14) rfl H rfl 29 #[.int .i64 ayr, .int .i64 amo, .int .i64 aba, .slice (some ⟨hl, 0, none⟩) k dl, .slice (some ⟨hn, 0, none⟩) j dn, .int .i64 afe, .int .i64 are, .int .i64 ata, .int .i64 aad, .int .i64 acu, .int .i64 at0, .int .i64 at1, .int .i64 at2, .int .i64 at3, .int .i64 at4, .slice (some ⟨ha, 0, none⟩) m0 da, .slice (some ⟨hb, 0, none⟩) m1 db, .slice x1 x2 x3] (0, 0) _ bC Try.underlying29 rfl Try.size_deal ?_)
            | (refine wpList_load_met (by rfl) 29 (.tmp 7) rfl G rfl 29 #[.int .i64 ayr, .int .i64 amo, .int .i64 aba, .slice (some ⟨gl, 0, none⟩) k cl, .slice (some ⟨gn, 0, none⟩) j cn, .int .i64 afe, .int .i64 are, .int .i64 ata, .int .i64 aad, .int .i64 acu, .int .i64 at0, .int .i64 at1, .int .i64 at2, .int .i64 at3, .int .i64 at4, .slice a1 a2 a3, .slice b1 b2 b3, .slice c1 c2 c3] (0, 0) _ bV6 Try.underlying29 rfl Try.size_deal ?_)
            | (with_reducible refine R2.out _ _ hB (fun w7 bn => ?_); replace hB := below_then hB bn; replace bC := bC.then bn; replace bV6 := bV6.then bn)
            | (with_reducible refine R3.out _ _ hB (fun w8 bn => ?_); replace hB := below_then hB bn; replace bC := bC.then bn; replace bV6 := bV6.then bn; have hu3 := bC.cell 3 _ rfl; have hu4 := bC.cell 4 _ rfl; have hu15 := bC.cell 15 _ rfl; have hu16 := bC.cell 16 _ rfl))
          go_meet
          case rel => exact ⟨rfl, hB⟩
      case rest =>
      obtain ⟨rfl, hB2⟩ := hcut
      have BF : Hid (Bef V H (.slice (some ⟨hl, 0, none⟩) k dl) (.slice (some ⟨hn, 0, none⟩) j dn) (.slice (some ⟨ha, 0, none⟩) m0 da) (.slice (some ⟨hb, 0, none⟩) m1 db) (.slice x1 x2 x3) ⟨⟨ayr, amo, aba, afe, are, ata, aad, acu, at0, at1, at2, at3, at4⟩, d.ls, d.ns, d.s0, d.s1, d.s2⟩ wc) := by
        have o := C6.out.then hB2
        exact ⟨below_then B6H.out hB2, ⟨o.ls, o.ns, o.s0, o.s1, o.s2, o.ab, o.ac, o.bc⟩, bC.then hB2, sV⟩
      clear R2 R3 C6 D6 B6H hB hB2 nz1 nz2 nz3 nz4 bz1 bz2 bz3 bz4 hu3 hu4 hu15 hu16 bC bV6 WB
      obtain ⟨WX, hWX⟩ : ∃ Y, Y = wc := ⟨_, rfl⟩
      subst hWX
      go_upto_block 4 with (with_reducible refine WN.out _ _ trivial ?_)
      clear WN
      go_cut [101] (fun _ wx => Aft V H wx)
      case first =>
        have iW := BF.out
        have bW := iW.blk
        rcases (show N = 0 ∨ N = 1 ∨ N = 2 ∨ N = 3 ∨ N = 4 ∨ N = 5 ∨ N = 6 ∨ N = 7 ∨ N = 8 ∨ N = 9 ∨ N = 10 ∨ N = 11 ∨ N = 12 ∨ N = 13 ∨ N = 14 ∨ N = 15 ∨ N = 16 ∨ N = 17 by omega) with rfl | rfl | rfl | rfl | rfl | rfl | rfl | rfl | rfl | rfl | rfl | rfl | rfl | rfl | rfl | rfl | rfl | rfl
        · as_aux_lemma =>
            have z := bW.cell 0 _ rfl
            have z2 := bW.frozen 0
            clear bW
            go_wp2_with fail
            go_meet
            case rel => exact iW.num (t := ⟨9000 + (1 + B0), amo, aba, afe, are, ata, aad, acu, at0, at1, at2, at3, at4⟩) rfl (NumT.bad_yr (by simp only; omega))
        · as_aux_lemma =>
            have z := bW.cell 1 _ rfl
            have z2 := bW.frozen 1
            clear bW
            go_wp2_with fail
            go_meet
            case rel => exact iW.num (t := ⟨ayr, 12 + (1 + B0), aba, afe, are, ata, aad, acu, at0, at1, at2, at3, at4⟩) rfl (NumT.bad_mo (by simp only; omega))
        · as_aux_lemma =>
            have z := bW.cell 2 _ rfl
            have z2 := bW.frozen 2
            clear bW
            go_wp2_with fail
            go_meet
            case rel => exact iW.num (t := ⟨ayr, amo, 2 + (1 + B0), afe, are, ata, aad, acu, at0, at1, at2, at3, at4⟩) rfl (NumT.bad_ba (by simp only; omega))
        · as_aux_lemma =>
            have z := bW.cell 5 _ rfl
            have z2 := bW.frozen 5
            clear bW
            go_wp2_with fail
            go_meet
            case rel => exact iW.num (t := ⟨ayr, amo, aba, 5000 + (1 + B0), are, ata, aad, acu, at0, at1, at2, at3, at4⟩) rfl (NumT.bad_fe (by simp only; omega))
        · as_aux_lemma =>
            have z := bW.cell 6 _ rfl
            have z2 := bW.frozen 6
            clear bW
            go_wp2_with fail
            go_meet
            case rel => exact iW.num (t := ⟨ayr, amo, aba, afe, -(1 + B0), ata, aad, acu, at0, at1, at2, at3, at4⟩) rfl (NumT.bad_re (by simp only; omega))
        · as_aux_lemma =>
            have z := bW.cell 7 _ rfl
            have z2 := bW.frozen 7
            clear bW
            go_wp2_with fail
            go_meet
            case rel => exact iW.num (t := ⟨ayr, amo, aba, afe, are, 10000 + (1 + B0), aad, acu, at0, at1, at2, at3, at4⟩) rfl (NumT.bad_ta (by simp only; omega))
        · as_aux_lemma =>
            have z := bW.cell 8 _ rfl
            have z2 := bW.frozen 8
            clear bW
            go_wp2_with fail
            go_meet
            case rel => exact iW.num (t := ⟨ayr, amo, aba, afe, are, ata, 1099511627776 + (1 + B0), acu, at0, at1, at2, at3, at4⟩) rfl (NumT.bad_ad (by simp only; omega))
        · as_aux_lemma =>
            have z := bW.cell 9 _ rfl
            have z2 := bW.frozen 9
            clear bW
            go_wp2_with fail
            go_meet
            case rel => exact iW.num (t := ⟨ayr, amo, aba, afe, are, ata, aad, -(1 + B0), at0, at1, at2, at3, at4⟩) rfl (NumT.bad_cu (by simp only; omega))
        · as_aux_lemma =>
            have z := bW.cell 10 _ rfl
            have z2 := bW.frozen 10
            clear bW
            go_wp2_with fail
            go_meet
            case rel => exact iW.num (t := ⟨ayr, amo, aba, afe, are, ata, aad, acu, 100000 + (1 + B0), at1, at2, at3, at4⟩) rfl (NumT.bad_t0 (by simp only; omega))
        · as_aux_lemma =>
            have z := bW.cell 14 _ rfl
            have z2 := bW.frozen 14
            clear bW
            go_wp2_with fail
            go_meet
            case rel => exact iW.num (t := ⟨ayr, amo, aba, afe, are, ata, aad, acu, at0, at1, at2, at3, -(1 + B0)⟩) rfl (NumT.bad_t4 (by simp only; omega))
        · as_aux_lemma =>
            have z := bW.cell 3 _ rfl
            have o := iW.own.ls
            rw [show (DealT.mk ⟨ayr, amo, aba, afe, are, ata, aad, acu, at0, at1, at2, at3, at4⟩ d.ls d.ns d.s0 d.s1 d.s2).ls.length = k from hnl] at o
            obtain ⟨y0, hy0⟩ : ∃ y, d.ls[0]? = some y := ⟨_, List.getElem?_eq_getElem (by omega)⟩
            have hk0 : 0 < k := by omega
            have hlk : (0 : Int) < (k : Int) := by omega
            have z1 : WX.cell? ⟨hl, 0, none⟩ = some (.int .i64 y0.id) := own_cell (i := 0) (j := 0) LnT.len o hnl hy0 rfl
            have f1 := o.frozenAt 0
            clear bW o
            go_wp2_with fail
            go_meet
            case rel => exact iW.loan hnl hk0 (x' := ⟨1 - (1 + B0), y0.bal⟩) (fun x hx => by obtain rfl : y0 = x := Option.some.inj (hy0.symm.trans hx); rfl) (by decide) (DealT.bad_loans (bad_id (by simp only; omega) (by show 0 < d.ls.length; omega)))
        · as_aux_lemma =>
            have z := bW.cell 3 _ rfl
            have o := iW.own.ls
            rw [show (DealT.mk ⟨ayr, amo, aba, afe, are, ata, aad, acu, at0, at1, at2, at3, at4⟩ d.ls d.ns d.s0 d.s1 d.s2).ls.length = k from hnl] at o
            obtain ⟨y0, hy0⟩ : ∃ y, d.ls[0]? = some y := ⟨_, List.getElem?_eq_getElem (by omega)⟩
            have hk0 : 0 < k := by omega
            have hlk : (0 : Int) < (k : Int) := by omega
            have z1 : WX.cell? ⟨hl, 1, none⟩ = some (.int .i64 y0.bal) := own_cell (i := 0) (j := 1) LnT.len o hnl hy0 rfl
            have f1 := o.frozenAt 1
            clear bW o
            go_wp2_with fail
            go_meet
            case rel => exact iW.loan hnl hk0 (x' := ⟨y0.id, -(1 + B0)⟩) (fun x hx => by obtain rfl : y0 = x := Option.some.inj (hy0.symm.trans hx); rfl) (by decide) (DealT.bad_lent (bad_bal (by simp only; omega) (by show 0 < d.ls.length; omega)))
        · as_aux_lemma =>
            have z := bW.cell 4 _ rfl
            have o := iW.own.ns
            rw [show (DealT.mk ⟨ayr, amo, aba, afe, are, ata, aad, acu, at0, at1, at2, at3, at4⟩ d.ls d.ns d.s0 d.s1 d.s2).ns.length = j from hnn] at o
            obtain ⟨y0, hy0⟩ : ∃ y, d.ns[0]? = some y := ⟨_, List.getElem?_eq_getElem (by omega)⟩
            have hk0 : 0 < j := by omega
            have hlk : (0 : Int) < (j : Int) := by omega
            have z1 : WX.cell? ⟨hn, 1, none⟩ = some (.int .i64 y0.og) := own_cell (i := 0) (j := 1) TrT.len o hnn hy0 rfl
            have f1 := o.frozenAt 1
            clear bW o
            have psl := PSL.out
            go_wp2_with fail
            go_meet
            case rel => exact iW.note hnn hk0 (x' := ⟨y0.rk, SL + (1 + B0), y0.rt⟩) (fun x hx => by obtain rfl : y0 = x := Option.some.inj (hy0.symm.trans hx); rfl) (by decide) (DealT.bad_og (fun L hL => by obtain rfl : SL = L := Option.some.inj (HL.out.symm.trans hL); simp only; omega) (by show 0 < d.ns.length; omega))
        · as_aux_lemma =>
            have z := bW.cell 4 _ rfl
            have o := iW.own.ns
            rw [show (DealT.mk ⟨ayr, amo, aba, afe, are, ata, aad, acu, at0, at1, at2, at3, at4⟩ d.ls d.ns d.s0 d.s1 d.s2).ns.length = j from hnn] at o
            obtain ⟨y0, hy0⟩ : ∃ y, d.ns[0]? = some y := ⟨_, List.getElem?_eq_getElem (by omega)⟩
            have hk0 : 0 < j := by omega
            have hlk : (0 : Int) < (j : Int) := by omega
            have z1 : WX.cell? ⟨hn, 0, none⟩ = some (.int .i64 y0.rk) := own_cell (i := 0) (j := 0) TrT.len o hnn hy0 rfl
            have f1 := o.frozenAt 0
            clear bW o
            go_wp2_with fail
            go_meet
            case rel => exact iW.note hnn hk0 (x' := ⟨7 + (1 + B0), y0.og, y0.rt⟩) (fun x hx => by obtain rfl : y0 = x := Option.some.inj (hy0.symm.trans hx); rfl) (by decide) (DealT.bad_notes (bad_note (bad_nrank (by simp only; omega)) (by show 0 < d.ns.length; omega)))
        · as_aux_lemma =>
            have z := bW.cell 4 _ rfl
            have o := iW.own.ns
            rw [show (DealT.mk ⟨ayr, amo, aba, afe, are, ata, aad, acu, at0, at1, at2, at3, at4⟩ d.ls d.ns d.s0 d.s1 d.s2).ns.length = j from hnn] at o
            obtain ⟨y0, hy0⟩ : ∃ y, d.ns[0]? = some y := ⟨_, List.getElem?_eq_getElem (by omega)⟩
            have hk0 : 0 < j := by omega
            have hlk : (0 : Int) < (j : Int) := by omega
            have z1 : WX.cell? ⟨hn, 2, none⟩ = some (.int .i64 y0.rt) := own_cell (i := 0) (j := 2) TrT.len o hnn hy0 rfl
            have f1 := o.frozenAt 2
            clear bW o
            go_wp2_with fail
            go_meet
            case rel => exact iW.note hnn hk0 (x' := ⟨y0.rk, y0.og, -(1 + B0)⟩) (fun x hx => by obtain rfl : y0 = x := Option.some.inj (hy0.symm.trans hx); rfl) (by decide) (DealT.bad_notes (bad_note (bad_nrate (by simp only; omega)) (by show 0 < d.ns.length; omega)))
        · as_aux_lemma =>
            have z := bW.cell 17 _ rfl
            have z2 := bW.frozen 17
            clear bW
            go_wp2_with fail
            go_meet
            case rel => exact iW.nil
        · as_aux_lemma =>
            go_upto_region 56 with fail
            obtain ⟨i0, hi, hz0, hz1, hz2⟩ := info_parts Try.info_st
            obtain ⟨⟨k0, r0⟩, hy0⟩ : ∃ y, d.s0[0]? = some y := ⟨_, List.getElem?_eq_getElem (by omega)⟩
            have hym : (⟨k0, r0⟩ : StT) ∈ d.s0 := List.mem_iff_getElem?.2 ⟨0, hy0⟩
            have i0m : (0 : Int) < (m0 : Int) := by omega
            have i1m : 0 < m0 := by omega
            clear bW
            refine wp_region_y [208, 209, 210, 211, 212, 213, 214, 215, 216, 217, 218, 219, 0] [0, 1, 2, 3, 4, 5, 6, 7, 8, 9, 10, 11] [fun y => y = (.pointer (some ⟨H, 15, none⟩) : Value), fun y => y = (.pointer (some ⟨H, 15, none⟩) : Value), fun y => y = (.slice (some ⟨ha, 0, none⟩) m0 da : Value), fun y => y = (.pointer (some ⟨H, 15, none⟩) : Value), fun y => y = (.pointer (some ⟨H, 15, none⟩) : Value), fun y => y = (.slice (some ⟨ha, 0, none⟩) m0 da : Value), fun y => y = (.pointer (some ⟨ha, 0, none⟩) : Value), fun y => y = (.agg #[.int .i64 k0, .int .i64 r0] : Value), fun _ => True, fun y => ∃ p n c, y = Value.slice p n c, fun y => y = (.pointer (some ⟨H, 15, none⟩) : Value), fun y => y = (.pointer (some ⟨H, 15, none⟩) : Value), fun _ => True] (fun D y wx => MoreG V H (.slice (some ⟨hl, 0, none⟩) k dl) (.slice (some ⟨hn, 0, none⟩) j dn) (.slice (some ⟨ha, 0, none⟩) m0 da) (.slice (some ⟨hb, 0, none⟩) m1 db) (.slice x1 x2 x3) ⟨⟨ayr, amo, aba, afe, are, ata, aad, acu, at0, at1, at2, at3, at4⟩, d.ls, d.ns, d.s0, d.s1, d.s2⟩ V.heap.size ⟨k0, r0⟩ (D 8) (D 9) (D 12) (y 8) (y 9) wx) [0, 1, 2, 3, 4, 5, 6, 7, 8, 9, 10, 11, 12] (by kernel_rfl) (by kernel_rfl) (by kernel_rfl) (fun _ => ⟨fun _ => ⟨iW.then (Below.refl _ _).drew, fun h => (by cases h)⟩, fun h => (by cases h), fun h => (by cases h), fun h => (by cases h)⟩) ?_ ?_
            · refine StepsY.cons (some 208) rfl rfl ?_ ?_
              · intro y wx D hg hF hno hD K hK
                simp only [acts, Act.put, List.getD_cons_zero, List.getD_cons_succ, List.setIfInBounds_toArray, List.set_cons_zero, List.set_cons_succ]
                go_simp
                refine hK.out _ _ (afterY_mk (.pointer (some ⟨H, 15, none⟩) : Value) ?_ rfl (by simpa using hg))
                simp only [acts, Act.put, List.getD_cons_zero, List.getD_cons_succ, List.setIfInBounds_toArray, List.set_cons_zero, List.set_cons_succ]
              refine StepsY.cons (some 209) rfl rfl ?_ ?_
              · intro y wx D hg hF hno hD K hK
                have f0 : y 0 = (.pointer (some ⟨H, 15, none⟩) : Value) := (hF 0 (by kernel_rfl)).2
                simp only [acts, Act.put, List.getD_cons_zero, List.getD_cons_succ, List.setIfInBounds_toArray, List.set_cons_zero, List.set_cons_succ]
                go_simp
                refine hK.out _ _ (afterY_mk (.pointer (some ⟨H, 15, none⟩) : Value) ?_ rfl (by simpa using hg))
                simp only [acts, Act.put, List.getD_cons_zero, List.getD_cons_succ, List.setIfInBounds_toArray, List.set_cons_zero, List.set_cons_succ]
                try simp only [f0]
              refine StepsY.cons (some 210) rfl rfl ?_ ?_
              · intro y wx D hg hF hno hD K hK
                have f1 : y 1 = (.pointer (some ⟨H, 15, none⟩) : Value) := (hF 1 (by kernel_rfl)).2
                have p0 := (hg.cells (hno 12 (by kernel_rfl))).cell 15 _ rfl
                simp only [acts, Act.put, List.getD_cons_zero, List.getD_cons_succ, List.setIfInBounds_toArray, List.set_cons_zero, List.set_cons_succ]
                go_simp
                refine hK.out _ _ (afterY_mk (.slice (some ⟨ha, 0, none⟩) m0 da : Value) ?_ rfl (by simpa using hg))
                simp only [acts, Act.put, List.getD_cons_zero, List.getD_cons_succ, List.setIfInBounds_toArray, List.set_cons_zero, List.set_cons_succ]
                try simp only [f1]
              refine StepsY.cons (some 211) rfl rfl ?_ ?_
              · intro y wx D hg hF hno hD K hK
                simp only [acts, Act.put, List.getD_cons_zero, List.getD_cons_succ, List.setIfInBounds_toArray, List.set_cons_zero, List.set_cons_succ]
                go_simp
                refine hK.out _ _ (afterY_mk (.pointer (some ⟨H, 15, none⟩) : Value) ?_ rfl (by simpa using hg))
                simp only [acts, Act.put, List.getD_cons_zero, List.getD_cons_succ, List.setIfInBounds_toArray, List.set_cons_zero, List.set_cons_succ]
              refine StepsY.cons (some 212) rfl rfl ?_ ?_
              · intro y wx D hg hF hno hD K hK
                have f3 : y 3 = (.pointer (some ⟨H, 15, none⟩) : Value) := (hF 3 (by kernel_rfl)).2
                simp only [acts, Act.put, List.getD_cons_zero, List.getD_cons_succ, List.setIfInBounds_toArray, List.set_cons_zero, List.set_cons_succ]
                go_simp
                refine hK.out _ _ (afterY_mk (.pointer (some ⟨H, 15, none⟩) : Value) ?_ rfl (by simpa using hg))
                simp only [acts, Act.put, List.getD_cons_zero, List.getD_cons_succ, List.setIfInBounds_toArray, List.set_cons_zero, List.set_cons_succ]
                try simp only [f3]
              refine StepsY.cons (some 213) rfl rfl ?_ ?_
              · intro y wx D hg hF hno hD K hK
                have f4 : y 4 = (.pointer (some ⟨H, 15, none⟩) : Value) := (hF 4 (by kernel_rfl)).2
                have p0 := (hg.cells (hno 12 (by kernel_rfl))).cell 15 _ rfl
                simp only [acts, Act.put, List.getD_cons_zero, List.getD_cons_succ, List.setIfInBounds_toArray, List.set_cons_zero, List.set_cons_succ]
                go_simp
                refine hK.out _ _ (afterY_mk (.slice (some ⟨ha, 0, none⟩) m0 da : Value) ?_ rfl (by simpa using hg))
                simp only [acts, Act.put, List.getD_cons_zero, List.getD_cons_succ, List.setIfInBounds_toArray, List.set_cons_zero, List.set_cons_succ]
                try simp only [f4]
              refine StepsY.cons (some 214) rfl rfl ?_ ?_
              · intro y wx D hg hF hno hD K hK
                have f5 : y 5 = (.slice (some ⟨ha, 0, none⟩) m0 da : Value) := (hF 5 (by kernel_rfl)).2
                simp only [acts, Act.put, List.getD_cons_zero, List.getD_cons_succ, List.setIfInBounds_toArray, List.set_cons_zero, List.set_cons_succ]
                simp only [f5]
                go_simp
                refine hK.out _ _ (afterY_mk (.pointer (some ⟨ha, 0, none⟩) : Value) ?_ rfl (by simpa using hg))
                simp only [acts, Act.put, List.getD_cons_zero, List.getD_cons_succ, List.setIfInBounds_toArray, List.set_cons_zero, List.set_cons_succ]
                try simp only [f5]
              refine StepsY.cons (some 215) rfl rfl ?_ ?_
              · intro y wx D hg hF hno hD K hK
                have f6 : y 6 = (.pointer (some ⟨ha, 0, none⟩) : Value) := (hF 6 (by kernel_rfl)).2
                have o0 := (hg.pre (hg.ahead (hno 8 (by kernel_rfl)))).1.own.s0; rw [show (DealT.mk ⟨ayr, amo, aba, afe, are, ata, aad, acu, at0, at1, at2, at3, at4⟩ d.ls d.ns d.s0 d.s1 d.s2).s0.length = m0 from hm0] at o0; have p0 : wx.cell? ⟨ha, 0, none⟩ = some (.int .i64 k0) := own_cell (i := 0) (j := 0) StT.len o0 hm0 hy0 rfl; have p1 : wx.cell? ⟨ha, 1, none⟩ = some (.int .i64 r0) := own_cell (i := 0) (j := 1) StT.len o0 hm0 hy0 rfl; clear o0
                simp only [acts, Act.put, List.getD_cons_zero, List.getD_cons_succ, List.setIfInBounds_toArray, List.set_cons_zero, List.set_cons_succ]
                go_simp
                refine hK.out _ _ (afterY_mk (.agg #[.int .i64 k0, .int .i64 r0] : Value) ?_ rfl (by simpa using hg))
                simp only [acts, Act.put, List.getD_cons_zero, List.getD_cons_succ, List.setIfInBounds_toArray, List.set_cons_zero, List.set_cons_succ]
                try simp only [f6]
              refine StepsY.cons (some 216) rfl rfl ?_ ?_
              · intro y wx D hg hF hno hD K hK
                have f7 : y 7 = (.agg #[.int .i64 k0, .int .i64 r0] : Value) := (hF 7 (by kernel_rfl)).2
                have hb9 : D 9 = false := hno 9 (by kernel_rfl)
                have hb12 : D 12 = false := hno 12 (by kernel_rfl)
                simp only [acts, Act.put, List.getD_cons_zero, List.getD_cons_succ, List.setIfInBounds_toArray, List.set_cons_zero, List.set_cons_succ]
                go_simp
                try simp only [f7]
                refine hK.out _ _ (afterY_mk (.slice (some ⟨wx.heap.size, 0, none⟩) 1 1) ?_ trivial ?_)
                · (try simp only [acts, Act.put, List.getD_cons_zero, List.getD_cons_succ, List.setIfInBounds_toArray, List.set_cons_zero, List.set_cons_succ]); (try simp only [f7])
                · have hp := hg.pre hb9
                  have sz := hp.1.below.size
                  exact ⟨fun _ => ⟨hp.1.then (below_alloc (Below.refl _ _) _), fun _ => ⟨_, rfl, sz, Blk.fresh _ _ (StT.f ⟨k0, r0⟩)⟩⟩, fun h => by simp [hb9] at h, fun h => by simp [hb12] at h, fun _ => by simp⟩
              refine StepsY.cons (some 217) rfl rfl ?_ ?_
              · intro y wx D hg hF hno hD K hK
                have f2 : y 2 = (.slice (some ⟨ha, 0, none⟩) m0 da : Value) := (hF 2 (by kernel_rfl)).2
                have h8 : D 8 = true := (hF 8 (by kernel_rfl)).1
                have h12 : D 12 = false := hno 12 (by kernel_rfl)
                have hp := hg.pre hD
                refine Exists.elim (hp.2 h8) (fun g hT => ?_)
                have e8 := hT.1
                have bg := hT.2.2
                have sz := hp.1.below.size
                have o0 := hp.1.own.s0
                rw [show (DealT.mk ⟨ayr, amo, aba, afe, are, ata, aad, acu, at0, at1, at2, at3, at4⟩ d.ls d.ns d.s0 d.s1 d.s2).s0.length = m0 from hm0] at o0
                simp only [acts, Act.put, List.getD_cons_zero, List.getD_cons_succ, List.setIfInBounds_toArray, List.set_cons_zero, List.set_cons_succ]
                rw [if_pos (by rfl)]
                refine wp_append_src rfl (.tmp 210) (.tmp 216) 26 rfl V.heap.size 37 i0 (.agg #[.int .i64 0, .int .i64 0]) 2 16 Try.underlying26 hi hz0 hz1 hz2 rfl (by decide) (.slice (some ⟨ha, 0, none⟩) m0 da) m0 (d.s0.flatMap StT.f) (by exact f2) o0 (.slice (some ⟨g, 0, none⟩) 1 1) 1 (StT.f ⟨k0, r0⟩) (by exact e8) (blk_src bg 1) rfl (StT.one _) (by unfold maxLen; omega) (by omega) sz ?_
                intro v2 w3 ow gr _
                refine hK.out _ _ (afterY_mk v2 ?_ (own_slice ow) ?_)
                · (try simp only [acts, Act.put, List.getD_cons_zero, List.getD_cons_succ, List.setIfInBounds_toArray, List.set_cons_zero, List.set_cons_succ]); (try go_simp)
                · have q := hp.1.more hym gr (own_more _ ow) (by rw [← hm0])
                  exact ⟨fun h => by simp at h, fun _ _ => q, fun h => by simp [h12] at h, fun _ => by simp [h8]⟩
              refine StepsY.cons (some 218) rfl rfl ?_ ?_
              · intro y wx D hg hF hno hD K hK
                simp only [acts, Act.put, List.getD_cons_zero, List.getD_cons_succ, List.setIfInBounds_toArray, List.set_cons_zero, List.set_cons_succ]
                go_simp
                refine hK.out _ _ (afterY_mk (.pointer (some ⟨H, 15, none⟩) : Value) ?_ rfl (by simpa using hg))
                simp only [acts, Act.put, List.getD_cons_zero, List.getD_cons_succ, List.setIfInBounds_toArray, List.set_cons_zero, List.set_cons_succ]
              refine StepsY.cons (some 219) rfl rfl ?_ ?_
              · intro y wx D hg hF hno hD K hK
                have f10 : y 10 = (.pointer (some ⟨H, 15, none⟩) : Value) := (hF 10 (by kernel_rfl)).2
                simp only [acts, Act.put, List.getD_cons_zero, List.getD_cons_succ, List.setIfInBounds_toArray, List.set_cons_zero, List.set_cons_succ]
                go_simp
                refine hK.out _ _ (afterY_mk (.pointer (some ⟨H, 15, none⟩) : Value) ?_ rfl (by simpa using hg))
                simp only [acts, Act.put, List.getD_cons_zero, List.getD_cons_succ, List.setIfInBounds_toArray, List.set_cons_zero, List.set_cons_succ]
                try simp only [f10]
              refine StepsY.cons none rfl rfl ?_ ?_
              · intro y wx D hg hF hno hD K hK
                have f11 : y 11 = (.pointer (some ⟨H, 15, none⟩) : Value) := (hF 11 (by kernel_rfl)).2
                have h9 : D 9 = true := (hF 9 (by kernel_rfl)).1
                have hs := hg.mid h9 hD
                have d15 := hs.1.cell 15 _ rfl
                have g15 := hs.1.frozen 15
                have hp0 : ∃ p n c, y 9 = Value.slice p n c := (hF 9 (by kernel_rfl)).2
                rw [if_pos (by rfl)]
                simp only [acts, Act.put, List.getD_cons_zero, List.getD_cons_succ, List.setIfInBounds_toArray, List.set_cons_zero, List.set_cons_succ]
                refine wp_store_slice 26 (.tmp 219) (.tmp 217) rfl H 15 (y 9) (.slice (some ⟨ha, 0, none⟩) m0 da) (by exact f11) rfl (by kernel_rfl) hp0 d15 g15 ?_
                refine hK.out _ _ (afterY_mk undef ?_ trivial ?_)
                · (try simp only [acts, Act.put, List.getD_cons_zero, List.getD_cons_succ, List.setIfInBounds_toArray, List.set_cons_zero, List.set_cons_succ]); (try go_simp)
                · exact ⟨fun h => by simp [h9] at h, fun _ h => by simp at h, fun _ => hs.2, fun _ => by simp [hg.ord h9]⟩
              exact StepsY.nil
            · intro y wx hF hg
              have v0 : y 0 = (.pointer (some ⟨H, 15, none⟩) : Value) := hF 0 (by decide)
              have v1 : y 1 = (.pointer (some ⟨H, 15, none⟩) : Value) := hF 1 (by decide)
              have v2 : y 2 = (.slice (some ⟨ha, 0, none⟩) m0 da : Value) := hF 2 (by decide)
              have v3 : y 3 = (.pointer (some ⟨H, 15, none⟩) : Value) := hF 3 (by decide)
              have v4 : y 4 = (.pointer (some ⟨H, 15, none⟩) : Value) := hF 4 (by decide)
              have v5 : y 5 = (.slice (some ⟨ha, 0, none⟩) m0 da : Value) := hF 5 (by decide)
              have v6 : y 6 = (.pointer (some ⟨ha, 0, none⟩) : Value) := hF 6 (by decide)
              have v7 : y 7 = (.agg #[.int .i64 k0, .int .i64 r0] : Value) := hF 7 (by decide)
              have v10 : y 10 = (.pointer (some ⟨H, 15, none⟩) : Value) := hF 10 (by decide)
              have v11 : y 11 = (.pointer (some ⟨H, 15, none⟩) : Value) := hF 11 (by decide)
              clear hF
              simp only [acts, Act.put, List.getD_cons_zero, List.getD_cons_succ, List.setIfInBounds_toArray, List.set_cons_zero, List.set_cons_succ]
              rw [v0, v1, v2, v3, v4, v5, v6, v7, v10, v11]
              clear v0 v1 v2 v3 v4 v5 v6 v7 v10 v11
              have q := hg.fin rfl
              go_wp2
              go_meet
              case rel => exact q
        · as_aux_lemma =>
            have z := bW.cell 16 _ rfl
            have o := iW.own.s1
            rw [show (DealT.mk ⟨ayr, amo, aba, afe, are, ata, aad, acu, at0, at1, at2, at3, at4⟩ d.ls d.ns d.s0 d.s1 d.s2).s1.length = m1 from hm1] at o
            obtain ⟨y0, hy0⟩ : ∃ y, d.s1[0]? = some y := ⟨_, List.getElem?_eq_getElem (by omega)⟩
            have hk0 : 0 < m1 := by omega
            have hlk : (0 : Int) < (m1 : Int) := by omega
            have z1 : WX.cell? ⟨hb, 0, none⟩ = some (.int .i64 y0.kd) := own_cell (i := 0) (j := 0) StT.len o hm1 hy0 rfl
            have z3 : WX.cell? ⟨hb, 1, none⟩ = some (.int .i64 y0.rk) := own_cell (i := 0) (j := 1) StT.len o hm1 hy0 rfl
            have f1 := o.frozenAt 0
            have f2 := o.frozenAt 1
            clear bW o
            go_wp2_with fail
            go_meet
            case rel => exact iW.step hm1 hk0 (by omega)
      case rest =>
      obtain ⟨aB, l, n, a, b, c, d', hb', aD, aH⟩ := hcut
      have hRG : DealIn wc (.slice (some ⟨gl, 0, none⟩) k cl) (.slice (some ⟨gn, 0, none⟩) j cn) (.slice a1 a2 a3) (.slice b1 b2 b3) (.slice c1 c2 c3) d := DIV.out.below aB
      have bG := BVH.out.then aB
      have hend := below_then hVw aB
      have hp' : d'.pool = 0 := by unfold DealT.pool; rw [hb']; rfl
      have e4 : ∀ wx, Below wc.heap.size wc wx → Calls Try.prog 8 #[d'.t.v l n a b c] wx fun e w' => e = .returned (.bool false) ∧ Below wx.heap.size wx w' := fun wx k => by rw [← hb']; exact dright_any _ _ _ _ _ d' wx (aD.below k)
      have e5 : ∀ wx, Below wc.heap.size wc wx → Calls Try.prog 9 #[d'.t.v l n a b c] wx fun e w' => e = .returned (.int .i64 0) ∧ Below wx.heap.size wx w' := fun wx k => by rw [← hp']; exact pool_any _ _ _ _ _ d' wx (aD.below k)
      obtain ⟨t', ht'⟩ : ∃ t, d'.t = t := ⟨_, rfl⟩
      rw [ht'] at e4 e5 aH
      obtain ⟨pyr, pmo, pba, pfe, pre, pta, pad, pcu, pt0, pt1, pt2, pt3, pt4⟩ := t'
      unfold NumT.v at e4 e5
      simp only at e4 e5
      have Q4 : Hid (∀ (wx : World) (R : Ending → World → Prop), Below wc.heap.size wc wx → (∀ w', Below wx.heap.size wx w' → R (.returned (.bool false)) w') → Calls Try.prog 8 #[.agg #[.int .i64 pyr, .int .i64 pmo, .int .i64 pba, l, n, .int .i64 pfe, .int .i64 pre, .int .i64 pta, .int .i64 pad, .int .i64 pcu, .int .i64 pt0, .int .i64 pt1, .int .i64 pt2, .int .i64 pt3, .int .i64 pt4, a, b, c]] wx R) := fun wx R k h => (e4 wx k).mono (by rintro e w' ⟨rfl, d⟩; exact h w' d)
      have Q5 : Hid (∀ (wx : World) (R : Ending → World → Prop), Below wc.heap.size wc wx → (∀ w', Below wx.heap.size wx w' → R (.returned (.int .i64 0)) w') → Calls Try.prog 9 #[.agg #[.int .i64 pyr, .int .i64 pmo, .int .i64 pba, l, n, .int .i64 pfe, .int .i64 pre, .int .i64 pta, .int .i64 pad, .int .i64 pcu, .int .i64 pt0, .int .i64 pt1, .int .i64 pt2, .int .i64 pt3, .int .i64 pt4, a, b, c]] wx R) := fun wx R k h => (e5 wx k).mono (by rintro e w' ⟨rfl, d⟩; exact h w' d)
      have Q6 : Hid (∀ (wx : World) (R : Ending → World → Prop), Below wc.heap.size wc wx → (∀ w', Below wx.heap.size wx w' → R (.returned (.bool true)) w') → Calls Try.prog 8 #[.agg #[.int .i64 ayr, .int .i64 amo, .int .i64 aba, .slice (some ⟨gl, 0, none⟩) k cl, .slice (some ⟨gn, 0, none⟩) j cn, .int .i64 afe, .int .i64 are, .int .i64 ata, .int .i64 aad, .int .i64 acu, .int .i64 at0, .int .i64 at1, .int .i64 at2, .int .i64 at3, .int .i64 at4, .slice a1 a2 a3, .slice b1 b2 b3, .slice c1 c2 c3]] wx R) := fun wx R k h => by
        have := dright_any _ _ _ _ _ d wx (hRG.below k)
        rw [HT.out, ok] at this
        exact this.mono (by rintro e w' ⟨rfl, d⟩; exact h w' d)
      have Q7 : Hid (∀ (wx : World) (R : Ending → World → Prop), True → (∀ w', Below wx.heap.size wx w' → R (.returned (.bool true)) w') → Calls Try.prog 3 #[] wx R) := fun wx R _ h => (dealRuns_any wx).mono (by rintro e w' ⟨rfl, d⟩; exact h w' d)
      have hB : Below wc.heap.size wc wc := Below.refl _ _
      clear hRG aB hVw hp' e4 e5 aD BF BVH DIV HL HP HQ HT hb' bN bB
      go_wp2_with (first
        | (refine wpList_load_row rfl 29 (.tmp 14) rfl H rfl 29 #[.int .i64 pyr, .int .i64 pmo, .int .i64 pba, l, n, .int .i64 pfe, .int .i64 pre, .int .i64 pta, .int .i64 pad, .int .i64 pcu, .int .i64 pt0, .int .i64 pt1, .int .i64 pt2, .int .i64 pt3, .int .i64 pt4, a, b, c] (0, 0) _ aH Try.underlying29 rfl Try.size_deal ?_)
        | (refine wpList_load_met (by rfl) 29 (.tmp 14) rfl H rfl 29 #[.int .i64 pyr, .int .i64 pmo, .int .i64 pba, l, n, .int .i64 pfe, .int .i64 pre, .int .i64 pta, .int .i64 pad, .int .i64 pcu, .int .i64 pt0, .int .i64 pt1, .int .i64 pt2, .int .i64 pt3, .int .i64 pt4, a, b, c] (0, 0) _ aH Try.underlying29 rfl Try.size_deal ?_)
        | (refine wpList_load_met (by rfl) 29 (.tmp 7) rfl G rfl 29 #[.int .i64 ayr, .int .i64 amo, .int .i64 aba, .slice (some ⟨gl, 0, none⟩) k cl, .slice (some ⟨gn, 0, none⟩) j cn, .int .i64 afe, .int .i64 are, .int .i64 ata, .int .i64 aad, .int .i64 acu, .int .i64 at0, .int .i64 at1, .int .i64 at2, .int .i64 at3, .int .i64 at4, .slice a1 a2 a3, .slice b1 b2 b3, .slice c1 c2 c3] (0, 0) _ bG Try.underlying29 rfl Try.size_deal ?_)
        | (with_reducible refine Q4.out _ _ hB (fun w7 bn => ?_); replace hB := below_then hB bn; replace aH := aH.then bn; replace bG := bG.then bn)
        | (with_reducible refine Q5.out _ _ hB (fun w8 bn => ?_); replace hB := below_then hB bn; replace aH := aH.then bn; replace bG := bG.then bn)
        | (with_reducible refine Q6.out _ _ hB (fun w9 bn => ?_); replace hB := below_then hB bn)
        | (with_reducible refine Q7.out _ _ trivial (fun w10 bn => ?_); replace hB := below_then hB bn))
      go_ret
      exact ⟨rfl, below_then hend hB⟩
/-- The law, of any arguments. -/
theorem dealTurned_law (v0 v1 v2 : Value) (w : World) (w0 : Arg w (.struct (.cons 1 (.int .i64) (.cons 1 (.int .i64) (.cons 1 (.int .i64) (.cons 1 (.int .i64) (.cons 1 (.int .i64) (.cons 1 (.int .i64) (.cons 1 (.int .i64) (.cons 1 (.int .i64) (.cons 5 (.arr (.cons 1 (.int .i64) (.cons 1 (.int .i64) (.cons 1 (.int .i64) (.cons 1 (.int .i64) (.cons 1 (.int .i64) .nil)))))) (.cons 1 (.slice 1 (.int .i64)) (.cons 1 (.slice 1 (.int .i64)) (.cons 1 (.slice 1 (.int .i64)) (.cons 1 (.slice 1 (.int .i64)) (.cons 3 (.arr (.cons 1 (.slice 1 (.int .i64)) (.cons 1 (.slice 1 (.int .i64)) (.cons 1 (.slice 1 (.int .i64)) .nil)))) .nil))))))))))))))) v0) (w1 : Arg w (.int .i64) v1) (w2 : Arg w (.int .i64) v2) :
    Calls Try.prog 5 #[v0, v1, v2] w fun e w' => e = .returned (.bool true) ∧ Below w.heap.size w w' := by
  obtain ⟨n1, rfl, _⟩ := arg_int w1
  obtain ⟨n2, rfl, _⟩ := arg_int w2
  exact dealTurned_any v0 n1 n2 w (arg_dealk w0)
end Go.Proofs.Ytamdmicdieeolaa
