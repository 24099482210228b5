/-
  The walk of DealTells.
-/
import Derived.Test.YtamdmicdieeolaaTellP
import Derived.Test.YtamdmicdieeolaaRefRight
import Derived.Test.YtamdmicdieeolaaDealRunsWalk
import Derived.Test.YtamdmicdieeolaaDealArg
namespace Go.Proofs.Ytamdmicdieeolaa
open Go.RowKit

set_option maxRecDepth 1000000 in
set_option maxHeartbeats 16000000 in
theorem dealTells_any (t : NumT) (l n a b c : Value) (d : DealT) (vk : Value) (own : Bool) (vs : Value) (zs : List StT) (w : World) (hd : DealIn w l n a b c d) (hk : DealKIn w vk) (hs : Lies 2 StT.f w vs zs) :
    Calls Try.prog 4 #[t.v l n a b c, vk, .bool own, vs] w fun e w' => e = .returned (.bool true) ∧ Below w.heap.size w w' := by
  have hk' := hk
  obtain ⟨tk, vl, vn, vr, vt, va, vb, vc, _, _, _, _, _, _, _, rfl, _⟩ := hk
  obtain ⟨kyr, kmo, kba, kfe, kre, kta, kad, kcu, kt0, kt1, kt2, kt3, kt4⟩ := tk
  obtain ⟨dyr, dmo, dba, dfe, dre, dta, dad, dcu, dt0, dt1, dt2, dt3, dt4⟩ := t
  unfold NumT.k at hk' ⊢
  simp only at hk' ⊢
  unfold NumT.v
  simp only
  have SK : (Try.prog.info? 43).map (·.size) = some (20 : Nat) := by kernel_rfl
  have P1 : Hid (∀ (wx : World) (R : Ending → World → Prop), Below w.heap.size w wx → (∀ l n a b c d w', d.ok = true → DealOwn wx.heap.size w' l n a b c d → Below wx.heap.size wx w' → R (.returned (d.t.v l n a b c)) w') → Calls Try.prog 12 #[.agg #[.int .i64 kyr, .int .i64 kmo, .int .i64 kba, .int .i64 kfe, .int .i64 kre, .int .i64 kta, .int .i64 kad, .int .i64 kcu, .int .i64 kt0, .int .i64 kt1, .int .i64 kt2, .int .i64 kt3, .int .i64 kt4, vl, vn, vr, vt, va, vb, vc]] wx R) := fun wx R bx k => (dealK_any _ wx (hk'.below bx)).mono (by rintro e w' ⟨l, n, a, b, c, d, rfl, ok, o, dd⟩; exact k l n a b c d w' ok o dd)
  obtain ⟨la, lc, rfl, _, _, _, _⟩ := id hd.ls
  obtain ⟨na, nc, rfl, _, _, _, _⟩ := id hd.ns
  obtain ⟨sa, sc, rfl, _, _, _, _⟩ := id hs
  obtain ⟨nl, hnl⟩ : ∃ k, d.ls.length = k := ⟨_, rfl⟩
  obtain ⟨nn, hnn⟩ : ∃ k, d.ns.length = k := ⟨_, rfl⟩
  obtain ⟨ns, hns⟩ : ∃ k, zs.length = k := ⟨_, rfl⟩
  rw [hnl, hnn] at hd
  rw [hns] at hs
  rw [hnl, hnn, hns]
  have H : Hid (DealIn w (.slice la nl lc) (.slice na nn nc) a b c d) := hd
  have HS : Hid (Lies 2 StT.f w (.slice sa ns sc) zs) := hs
  have HNS : Hid (zs.length = ns) := hns
  clear hk' hd hs hnl hnn hns
  go_enter Try.func4, Try.ntmps4
  go_upto_region 1 with fail
  refine wp_letter (fun wx => ∃ D K, w.heap.size = D ∧ D + 1 = K ∧ Blk wx D 29 (NumT.f ⟨dyr, dmo, dba, dfe, dre, dta, dad, dcu, dt0, dt1, dt2, dt3, dt4⟩ (.slice la nl lc) (.slice na nn nc) a b c) ∧ Blk wx K 43 (NumT.k ⟨kyr, kmo, kba, kfe, kre, kta, kad, kcu, kt0, kt1, kt2, kt3, kt4⟩ vl vn vr vt va vb vc) ∧ Below w.heap.size w wx) ⟨_, _, rfl, rfl, (Blk.fresh _ _ (NumT.f ⟨dyr, dmo, dba, dfe, dre, dta, dad, dcu, dt0, dt1, dt2, dt3, dt4⟩ (.slice la nl lc) (.slice na nn nc) a b c)).alloc _, Blk.fresh2 _ _ _ (NumT.k ⟨kyr, kmo, kba, kfe, kre, kta, kad, kcu, kt0, kt1, kt2, kt3, kt4⟩ vl vn vr vt va vb vc), below_alloc (below_alloc (Below.refl _ _) _) _⟩ ?_
  rintro W ⟨D, K, eD, eK, bD, bK, hW⟩
  rw [eD, eK]
  have hDw : w.heap.size ≤ D := by omega
  have hDK : K ≠ D := by omega
  have hDW := bD.lt
  clear eD eK
  go_upto_if 11 with fail
  go_cut [9] (fun _ wx => ∃ l n a b c d, Blk wx D 29 (d.t.f l n a b c) ∧ DealIn wx l n a b c d ∧ Blk wx K 43 (NumT.k ⟨kyr, kmo, kba, kfe, kre, kta, kad, kcu, kt0, kt1, kt2, kt3, kt4⟩ vl vn vr vt va vb vc) ∧ Below w.heap.size w wx)
  case first =>
    clear HS HNS
    cases own with
    | true =>
      clear H
      go_wp2_with (first
        | (refine wpList_load_row rfl 43 (.tmp 5) rfl K rfl 43 #[.int .i64 kyr, .int .i64 kmo, .int .i64 kba, .int .i64 kfe, .int .i64 kre, .int .i64 kta, .int .i64 kad, .int .i64 kcu, .int .i64 kt0, .int .i64 kt1, .int .i64 kt2, .int .i64 kt3, .int .i64 kt4, vl, vn, vr, vt, va, vb, vc] (0, 0) _ bK Try.underlying43 rfl SK ?_)
        | (with_reducible refine P1.out _ _ hW (fun l1 n1 a1 b1 c1 d1 w1 ok O1 dd => ?_); replace bD := bD.then dd; replace bK := bK.then dd)
        | (refine wpl_put_deal (.tmp 4) (.tmp 13) rfl rfl d1.t l1 n1 a1 b1 c1 D bD rfl rfl rfl (own_one O1.ls) (own_one O1.ns) (own_one O1.s0) (own_one O1.s1) (own_one O1.s2) (fun X bX rX => ?_)))
      go_meet
      case rel =>
        have hB := below_then hW dd
        exact ⟨l1, n1, a1, b1, c1, d1, bX, (O1.above rX hDW).in, bK.rest rX hDK, rX.below hB hDw hB.size⟩
    | false =>
      clear P1 SK
      obtain ⟨m1, m1a, _, e1a, e1b, e1c⟩ := few nl 70
      replace e1a : min (nl : Int) ((70 : Int)) = (m1 : Int) := e1a
      replace e1b : (if (70 : Int) < (nl : Int) then (70 : Int) else (nl : Int)) = (m1 : Int) := e1b
      replace e1c : (if (nl : Int) < (70 : Int) then (nl : Int) else (70 : Int)) = (m1 : Int) := e1c
      obtain ⟨m2, m2a, _, e2a, e2b, e2c⟩ := few nn 10
      replace e2a : min (nn : Int) ((10 : Int)) = (m2 : Int) := e2a
      replace e2b : (if (10 : Int) < (nn : Int) then (10 : Int) else (nn : Int)) = (m2 : Int) := e2b
      replace e2c : (if (nn : Int) < (10 : Int) then (nn : Int) else (10 : Int)) = (m2 : Int) := e2c
      have L1 := H.out.ls.len
      have L2 := H.out.ns.len
      have i1 : (0 : Int) ≤ (m1 : Int) := by omega
      have i2 : (m1 : Int) ≤ (lc : Int) := by omega
      have i3 : (0 : Int) ≤ (m2 : Int) := by omega
      have i4 : (m2 : Int) ≤ (nc : Int) := by omega
      clear L1 L2
      go_upto_region 3 with fail
      go_cut [30] (fun _ wx => Blk wx D 29 (NumT.f ⟨dyr, dmo, dba, dfe, dre, dta, dad, dcu, dt0, dt1, dt2, dt3, dt4⟩ (.slice la m1 lc) (.slice na m2 nc) a b c) ∧ Blk wx K 43 (NumT.k ⟨kyr, kmo, kba, kfe, kre, kta, kad, kcu, kt0, kt1, kt2, kt3, kt4⟩ vl vn vr vt va vb vc) ∧ Below w.heap.size w wx)
      case first =>
        as_aux_lemma =>
          clear H
          refine wp_region_y [14, 15, 16, 17, 18, 19, 20, 21, 22, 23, 24, 25, 26, 27, 28, 0, 29, 0] [0, 1, 2, 3, 4, 5, 6, 7, 8, 9, 10, 11, 12, 13, 14, 16] [fun y => y = (.pointer (some ⟨D, 3, none⟩) : Value), fun y => y = (.slice la nl lc : Value), fun y => y = (.pointer (some ⟨D, 3, none⟩) : Value), fun y => y = (.slice la nl lc : Value), fun y => y = (.int .i64 nl : Value), fun y => y = (.int .i64 m1 : Value), fun y => y = (.slice la m1 lc : Value), fun y => y = (.pointer (some ⟨D, 4, none⟩) : Value), fun y => y = (.slice na nn nc : Value), fun y => y = (.pointer (some ⟨D, 4, none⟩) : Value), fun y => y = (.slice na nn nc : Value), fun y => y = (.int .i64 nn : Value), fun y => y = (.int .i64 m2 : Value), fun y => y = (.slice na m2 nc : Value), fun y => y = (.pointer (some ⟨D, 3, none⟩) : Value), fun _ => True, fun y => y = (.pointer (some ⟨D, 4, none⟩) : Value), fun _ => True] (fun D_ y wx => Rest D W wx ∧ Blk wx D 29 (NumT.f ⟨dyr, dmo, dba, dfe, dre, dta, dad, dcu, dt0, dt1, dt2, dt3, dt4⟩ (if D_ 15 = true then .slice la m1 lc else .slice la nl lc) (if D_ 17 = true then .slice na m2 nc else .slice na nn nc) a b c)) [0, 1, 2, 3, 4, 5, 6, 7, 8, 9, 10, 11, 12, 13, 14, 15, 16, 17] (by kernel_rfl) (by kernel_rfl) (by kernel_rfl) (fun _ => ⟨Rest.of_below (Below.refl _ _).drew, bD.then (Below.refl _ _).drew⟩) ?_ ?_
          · refine StepsY.cons (some 14) rfl rfl ?_ ?_
            · intro y wx D_ hg hF hno hD K hK
              simp only [acts, Act.put, List.getD_cons_zero, List.getD_cons_succ, List.setIfInBounds_toArray, List.set_cons_zero, List.set_cons_succ]
              go_simp
              refine hK.out _ _ (afterY_mk (.pointer (some ⟨D, 3, none⟩) : Value) ?_ rfl (by simpa using hg))
              simp only [acts, Act.put, List.getD_cons_zero, List.getD_cons_succ, List.setIfInBounds_toArray, List.set_cons_zero, List.set_cons_succ]
            refine StepsY.cons (some 15) rfl rfl ?_ ?_
            · intro y wx D_ hg hF hno hD K hK
              have f0 : y 0 = (.pointer (some ⟨D, 3, none⟩) : Value) := (hF 0 (by kernel_rfl)).2
              have h0 : D_ 15 = false := hno 15 (by kernel_rfl)
              have bg := hg.2
              rw [h0] at bg
              have p0 : wx.cell? ⟨D, 3, none⟩ = some (.slice la nl lc) := bg.cell 3 _ rfl
              clear bg h0
              simp only [acts, Act.put, List.getD_cons_zero, List.getD_cons_succ, List.setIfInBounds_toArray, List.set_cons_zero, List.set_cons_succ]
              try simp only [f0]
              go_simp
              refine hK.out _ _ (afterY_mk (.slice la nl lc : Value) ?_ rfl (by simpa using hg))
              simp only [acts, Act.put, List.getD_cons_zero, List.getD_cons_succ, List.setIfInBounds_toArray, List.set_cons_zero, List.set_cons_succ]
              try simp only [f0]
            refine StepsY.cons (some 16) rfl rfl ?_ ?_
            · intro y wx D_ hg hF hno hD K hK
              simp only [acts, Act.put, List.getD_cons_zero, List.getD_cons_succ, List.setIfInBounds_toArray, List.set_cons_zero, List.set_cons_succ]
              go_simp
              refine hK.out _ _ (afterY_mk (.pointer (some ⟨D, 3, none⟩) : Value) ?_ rfl (by simpa using hg))
              simp only [acts, Act.put, List.getD_cons_zero, List.getD_cons_succ, List.setIfInBounds_toArray, List.set_cons_zero, List.set_cons_succ]
            refine StepsY.cons (some 17) rfl rfl ?_ ?_
            · intro y wx D_ hg hF hno hD K hK
              have f2 : y 2 = (.pointer (some ⟨D, 3, none⟩) : Value) := (hF 2 (by kernel_rfl)).2
              have h0 : D_ 15 = false := hno 15 (by kernel_rfl)
              have bg := hg.2
              rw [h0] at bg
              have p0 : wx.cell? ⟨D, 3, none⟩ = some (.slice la nl lc) := bg.cell 3 _ rfl
              clear bg h0
              simp only [acts, Act.put, List.getD_cons_zero, List.getD_cons_succ, List.setIfInBounds_toArray, List.set_cons_zero, List.set_cons_succ]
              try simp only [f2]
              go_simp
              refine hK.out _ _ (afterY_mk (.slice la nl lc : Value) ?_ rfl (by simpa using hg))
              simp only [acts, Act.put, List.getD_cons_zero, List.getD_cons_succ, List.setIfInBounds_toArray, List.set_cons_zero, List.set_cons_succ]
              try simp only [f2]
            refine StepsY.cons (some 18) rfl rfl ?_ ?_
            · intro y wx D_ hg hF hno hD K hK
              have f3 : y 3 = (.slice la nl lc : Value) := (hF 3 (by kernel_rfl)).2
              simp only [acts, Act.put, List.getD_cons_zero, List.getD_cons_succ, List.setIfInBounds_toArray, List.set_cons_zero, List.set_cons_succ]
              try simp only [f3]
              go_simp
              refine hK.out _ _ (afterY_mk (.int .i64 nl : Value) ?_ rfl (by simpa using hg))
              simp only [acts, Act.put, List.getD_cons_zero, List.getD_cons_succ, List.setIfInBounds_toArray, List.set_cons_zero, List.set_cons_succ]
              try simp only [f3]
            refine StepsY.cons (some 19) rfl rfl ?_ ?_
            · intro y wx D_ hg hF hno hD K hK
              have f4 : y 4 = (.int .i64 nl : Value) := (hF 4 (by kernel_rfl)).2
              simp only [acts, Act.put, List.getD_cons_zero, List.getD_cons_succ, List.setIfInBounds_toArray, List.set_cons_zero, List.set_cons_succ]
              try simp only [f4]
              go_simp
              refine hK.out _ _ (afterY_mk (.int .i64 m1 : Value) ?_ rfl (by simpa using hg))
              simp only [acts, Act.put, List.getD_cons_zero, List.getD_cons_succ, List.setIfInBounds_toArray, List.set_cons_zero, List.set_cons_succ]
              try simp only [f4]
            refine StepsY.cons (some 20) rfl rfl ?_ ?_
            · intro y wx D_ hg hF hno hD K hK
              have f1 : y 1 = (.slice la nl lc : Value) := (hF 1 (by kernel_rfl)).2
              have f5 : y 5 = (.int .i64 m1 : Value) := (hF 5 (by kernel_rfl)).2
              simp only [acts, Act.put, List.getD_cons_zero, List.getD_cons_succ, List.setIfInBounds_toArray, List.set_cons_zero, List.set_cons_succ]
              try simp only [f1, f5]
              go_simp
              refine hK.out _ _ (afterY_mk (.slice la m1 lc : Value) ?_ rfl (by simpa using hg))
              simp only [acts, Act.put, List.getD_cons_zero, List.getD_cons_succ, List.setIfInBounds_toArray, List.set_cons_zero, List.set_cons_succ]
              try simp only [f1, f5]
            refine StepsY.cons (some 21) rfl rfl ?_ ?_
            · intro y wx D_ hg hF hno hD K hK
              simp only [acts, Act.put, List.getD_cons_zero, List.getD_cons_succ, List.setIfInBounds_toArray, List.set_cons_zero, List.set_cons_succ]
              go_simp
              refine hK.out _ _ (afterY_mk (.pointer (some ⟨D, 4, none⟩) : Value) ?_ rfl (by simpa using hg))
              simp only [acts, Act.put, List.getD_cons_zero, List.getD_cons_succ, List.setIfInBounds_toArray, List.set_cons_zero, List.set_cons_succ]
            refine StepsY.cons (some 22) rfl rfl ?_ ?_
            · intro y wx D_ hg hF hno hD K hK
              have f7 : y 7 = (.pointer (some ⟨D, 4, none⟩) : Value) := (hF 7 (by kernel_rfl)).2
              have h0 : D_ 17 = false := hno 17 (by kernel_rfl)
              have bg := hg.2
              rw [h0] at bg
              have p0 : wx.cell? ⟨D, 4, none⟩ = some (.slice na nn nc) := bg.cell 4 _ rfl
              clear bg h0
              simp only [acts, Act.put, List.getD_cons_zero, List.getD_cons_succ, List.setIfInBounds_toArray, List.set_cons_zero, List.set_cons_succ]
              try simp only [f7]
              go_simp
              refine hK.out _ _ (afterY_mk (.slice na nn nc : Value) ?_ rfl (by simpa using hg))
              simp only [acts, Act.put, List.getD_cons_zero, List.getD_cons_succ, List.setIfInBounds_toArray, List.set_cons_zero, List.set_cons_succ]
              try simp only [f7]
            refine StepsY.cons (some 23) rfl rfl ?_ ?_
            · intro y wx D_ hg hF hno hD K hK
              simp only [acts, Act.put, List.getD_cons_zero, List.getD_cons_succ, List.setIfInBounds_toArray, List.set_cons_zero, List.set_cons_succ]
              go_simp
              refine hK.out _ _ (afterY_mk (.pointer (some ⟨D, 4, none⟩) : Value) ?_ rfl (by simpa using hg))
              simp only [acts, Act.put, List.getD_cons_zero, List.getD_cons_succ, List.setIfInBounds_toArray, List.set_cons_zero, List.set_cons_succ]
            refine StepsY.cons (some 24) rfl rfl ?_ ?_
            · intro y wx D_ hg hF hno hD K hK
              have f9 : y 9 = (.pointer (some ⟨D, 4, none⟩) : Value) := (hF 9 (by kernel_rfl)).2
              have h0 : D_ 17 = false := hno 17 (by kernel_rfl)
              have bg := hg.2
              rw [h0] at bg
              have p0 : wx.cell? ⟨D, 4, none⟩ = some (.slice na nn nc) := bg.cell 4 _ rfl
              clear bg h0
              simp only [acts, Act.put, List.getD_cons_zero, List.getD_cons_succ, List.setIfInBounds_toArray, List.set_cons_zero, List.set_cons_succ]
              try simp only [f9]
              go_simp
              refine hK.out _ _ (afterY_mk (.slice na nn nc : Value) ?_ rfl (by simpa using hg))
              simp only [acts, Act.put, List.getD_cons_zero, List.getD_cons_succ, List.setIfInBounds_toArray, List.set_cons_zero, List.set_cons_succ]
              try simp only [f9]
            refine StepsY.cons (some 25) rfl rfl ?_ ?_
            · intro y wx D_ hg hF hno hD K hK
              have f10 : y 10 = (.slice na nn nc : Value) := (hF 10 (by kernel_rfl)).2
              simp only [acts, Act.put, List.getD_cons_zero, List.getD_cons_succ, List.setIfInBounds_toArray, List.set_cons_zero, List.set_cons_succ]
              try simp only [f10]
              go_simp
              refine hK.out _ _ (afterY_mk (.int .i64 nn : Value) ?_ rfl (by simpa using hg))
              simp only [acts, Act.put, List.getD_cons_zero, List.getD_cons_succ, List.setIfInBounds_toArray, List.set_cons_zero, List.set_cons_succ]
              try simp only [f10]
            refine StepsY.cons (some 26) rfl rfl ?_ ?_
            · intro y wx D_ hg hF hno hD K hK
              have f11 : y 11 = (.int .i64 nn : Value) := (hF 11 (by kernel_rfl)).2
              simp only [acts, Act.put, List.getD_cons_zero, List.getD_cons_succ, List.setIfInBounds_toArray, List.set_cons_zero, List.set_cons_succ]
              try simp only [f11]
              go_simp
              refine hK.out _ _ (afterY_mk (.int .i64 m2 : Value) ?_ rfl (by simpa using hg))
              simp only [acts, Act.put, List.getD_cons_zero, List.getD_cons_succ, List.setIfInBounds_toArray, List.set_cons_zero, List.set_cons_succ]
              try simp only [f11]
            refine StepsY.cons (some 27) rfl rfl ?_ ?_
            · intro y wx D_ hg hF hno hD K hK
              have f8 : y 8 = (.slice na nn nc : Value) := (hF 8 (by kernel_rfl)).2
              have f12 : y 12 = (.int .i64 m2 : Value) := (hF 12 (by kernel_rfl)).2
              simp only [acts, Act.put, List.getD_cons_zero, List.getD_cons_succ, List.setIfInBounds_toArray, List.set_cons_zero, List.set_cons_succ]
              try simp only [f8, f12]
              go_simp
              refine hK.out _ _ (afterY_mk (.slice na m2 nc : Value) ?_ rfl (by simpa using hg))
              simp only [acts, Act.put, List.getD_cons_zero, List.getD_cons_succ, List.setIfInBounds_toArray, List.set_cons_zero, List.set_cons_succ]
              try simp only [f8, f12]
            refine StepsY.cons (some 28) rfl rfl ?_ ?_
            · intro y wx D_ hg hF hno hD K hK
              simp only [acts, Act.put, List.getD_cons_zero, List.getD_cons_succ, List.setIfInBounds_toArray, List.set_cons_zero, List.set_cons_succ]
              go_simp
              refine hK.out _ _ (afterY_mk (.pointer (some ⟨D, 3, none⟩) : Value) ?_ rfl (by simpa using hg))
              simp only [acts, Act.put, List.getD_cons_zero, List.getD_cons_succ, List.setIfInBounds_toArray, List.set_cons_zero, List.set_cons_succ]
            refine StepsY.cons none rfl rfl ?_ ?_
            · intro y wx D_ hg hF hno hD K hK
              have f14 : y 14 = (.pointer (some ⟨D, 3, none⟩) : Value) := (hF 14 (by kernel_rfl)).2
              have f6 : y 6 = (.slice la m1 lc : Value) := (hF 6 (by kernel_rfl)).2
              have bg := hg.2
              have h1 : wx.frozen? ⟨D, 3, none⟩ = false := bg.frozen 3
              rw [hD] at bg
              have p0 := bg.cell 3 _ rfl
              rw [if_pos (by rfl)]
              simp only [acts, Act.put, List.getD_cons_zero, List.getD_cons_succ, List.setIfInBounds_toArray, List.set_cons_zero, List.set_cons_succ]
              refine wp_store_slice 22 (.tmp 28) (.tmp 20) rfl D 3 (.slice la m1 lc) _ (by exact f14) (by exact f6) (by kernel_rfl) ⟨_, _, _, rfl⟩ p0 h1 ?_
              refine hK.out _ _ (afterY_mk undef ?_ trivial ?_)
              · (try simp only [acts, Act.put, List.getD_cons_zero, List.getD_cons_succ, List.setIfInBounds_toArray, List.set_cons_zero, List.set_cons_succ]); (try go_simp)
              · have q := (hg.1).trans (Rest.set D 3 wx (.slice la m1 lc))
                have q2 := bg.set 3 (.slice la m1 lc)
                refine ⟨q, ?_⟩
                simpa [NumT.f] using q2
            refine StepsY.cons (some 29) rfl rfl ?_ ?_
            · intro y wx D_ hg hF hno hD K hK
              simp only [acts, Act.put, List.getD_cons_zero, List.getD_cons_succ, List.setIfInBounds_toArray, List.set_cons_zero, List.set_cons_succ]
              go_simp
              refine hK.out _ _ (afterY_mk (.pointer (some ⟨D, 4, none⟩) : Value) ?_ rfl (by simpa using hg))
              simp only [acts, Act.put, List.getD_cons_zero, List.getD_cons_succ, List.setIfInBounds_toArray, List.set_cons_zero, List.set_cons_succ]
            refine StepsY.cons none rfl rfl ?_ ?_
            · intro y wx D_ hg hF hno hD K hK
              have f16 : y 16 = (.pointer (some ⟨D, 4, none⟩) : Value) := (hF 16 (by kernel_rfl)).2
              have f13 : y 13 = (.slice na m2 nc : Value) := (hF 13 (by kernel_rfl)).2
              have bg := hg.2
              have h1 : wx.frozen? ⟨D, 4, none⟩ = false := bg.frozen 4
              rw [hD] at bg
              have p0 := bg.cell 4 _ rfl
              rw [if_pos (by rfl)]
              simp only [acts, Act.put, List.getD_cons_zero, List.getD_cons_succ, List.setIfInBounds_toArray, List.set_cons_zero, List.set_cons_succ]
              refine wp_store_slice 23 (.tmp 29) (.tmp 27) rfl D 4 (.slice na m2 nc) _ (by exact f16) (by exact f13) (by kernel_rfl) ⟨_, _, _, rfl⟩ p0 h1 ?_
              refine hK.out _ _ (afterY_mk undef ?_ trivial ?_)
              · (try simp only [acts, Act.put, List.getD_cons_zero, List.getD_cons_succ, List.setIfInBounds_toArray, List.set_cons_zero, List.set_cons_succ]); (try go_simp)
              · have q := (hg.1).trans (Rest.set D 4 wx (.slice na m2 nc))
                have q2 := bg.set 4 (.slice na m2 nc)
                refine ⟨q, ?_⟩
                simpa [NumT.f] using q2
            exact StepsY.nil
          · intro y wx hF hg
            have v0 : y 0 = (.pointer (some ⟨D, 3, none⟩) : Value) := hF 0 (by decide)
            have v1 : y 1 = (.slice la nl lc : Value) := hF 1 (by decide)
            have v2 : y 2 = (.pointer (some ⟨D, 3, none⟩) : Value) := hF 2 (by decide)
            have v3 : y 3 = (.slice la nl lc : Value) := hF 3 (by decide)
            have v4 : y 4 = (.int .i64 nl : Value) := hF 4 (by decide)
            have v5 : y 5 = (.int .i64 m1 : Value) := hF 5 (by decide)
            have v6 : y 6 = (.slice la m1 lc : Value) := hF 6 (by decide)
            have v7 : y 7 = (.pointer (some ⟨D, 4, none⟩) : Value) := hF 7 (by decide)
            have v8 : y 8 = (.slice na nn nc : Value) := hF 8 (by decide)
            have v9 : y 9 = (.pointer (some ⟨D, 4, none⟩) : Value) := hF 9 (by decide)
            have v10 : y 10 = (.slice na nn nc : Value) := hF 10 (by decide)
            have v11 : y 11 = (.int .i64 nn : Value) := hF 11 (by decide)
            have v12 : y 12 = (.int .i64 m2 : Value) := hF 12 (by decide)
            have v13 : y 13 = (.slice na m2 nc : Value) := hF 13 (by decide)
            have v14 : y 14 = (.pointer (some ⟨D, 3, none⟩) : Value) := hF 14 (by decide)
            have v16 : y 16 = (.pointer (some ⟨D, 4, none⟩) : Value) := hF 16 (by decide)
            clear hF
            simp only [acts, Act.put, List.getD_cons_zero, List.getD_cons_succ, List.setIfInBounds_toArray, List.set_cons_zero, List.set_cons_succ]
            rw [v0, v1, v2, v3, v4, v5, v6, v7, v8, v9, v10, v11, v12, v13, v14, v16]
            clear v0 v1 v2 v3 v4 v5 v6 v7 v8 v9 v10 v11 v12 v13 v14 v16
            have hR := hg.1
            have hV : Blk wx D 29 (NumT.f ⟨dyr, dmo, dba, dfe, dre, dta, dad, dcu, dt0, dt1, dt2, dt3, dt4⟩ (.slice la m1 lc) (.slice na m2 nc) a b c) := hg.2
            go_wp2
            go_meet
            case rel => exact ⟨hV, bK.rest hR hDK, hR.below hW hDw hW.size⟩
      case rest =>
      obtain ⟨bD, bK, hB⟩ := hcut
      have LL := (H.out.ls.take m1 m1a)
      have LN := (H.out.ns.take m2 m2a)
      have HA : Hid (Lies 2 LnT.f w (.slice la m1 lc) (d.ls.take m1)) := LL
      have HB : Hid (Lies 3 TrT.f w (.slice na m2 nc) (d.ns.take m2)) := LN
      have h0 := H.out.s0
      have h1 := H.out.s1
      have h2 := H.out.s2
      clear LL LN H e1a e1b e1c e2a e2b e2c i1 i2 i3 i4
      obtain ⟨l3, hl3⟩ : ∃ v : Value, .slice la m1 lc = v := ⟨_, rfl⟩
      obtain ⟨n3, hn3⟩ : ∃ v : Value, .slice na m2 nc = v := ⟨_, rfl⟩
      rw [hl3, hn3] at bD
      rw [hl3] at HA
      rw [hn3] at HB
      clear hl3 hn3
      go_wp2_with fail
      go_loopw [30] (fun i wx => ∃ (j : Int) (a b c : Value) (x y z : List StT), 0 ≤ j ∧ j ≤ 3 ∧ i = .int .i64 j ∧ Lies 2 StT.f w a x ∧ Lies 2 StT.f w b y ∧ Lies 2 StT.f w c z ∧ Blk wx D 29 (NumT.f ⟨dyr, dmo, dba, dfe, dre, dta, dad, dcu, dt0, dt1, dt2, dt3, dt4⟩ l3 n3 a b c) ∧ Blk wx K 43 (NumT.k ⟨kyr, kmo, kba, kfe, kre, kta, kad, kcu, kt0, kt1, kt2, kt3, kt4⟩ vl vn vr vt va vb vc) ∧ Below w.heap.size w wx) (fun i _ => 3 - (intOf i).toNat)
      case atStart => exact ⟨0, a, b, c, _, _, _, by omega, by omega, rfl, h0, h1, h2, bD, bK, hB⟩
      case round =>
      clear h0 h1 h2 bD bK hB hW hDW
      obtain ⟨j, a, b, c, x, y, z, j0, j1, rfl, h0, h1, h2, bD, bK, hB⟩ := hrel
      rcases (show j = 0 ∨ j = 1 ∨ j = 2 ∨ j = 3 by omega) with rfl | rfl | rfl | rfl
      · obtain ⟨g, cap, rfl, _, _, _, _⟩ := id h0
        obtain ⟨q, hq⟩ : ∃ k, x.length = k := ⟨_, rfl⟩
        rw [hq] at h0 bD
        obtain ⟨m, ma, _, e1a, e1b, e1c⟩ := few q 20
        replace e1a : min (q : Int) ((20 : Int)) = (m : Int) := e1a
        replace e1b : (if (20 : Int) < (q : Int) then (20 : Int) else (q : Int)) = (m : Int) := e1b
        replace e1c : (if (q : Int) < (20 : Int) then (q : Int) else (20 : Int)) = (m : Int) := e1c
        have L1 := h0.len
        have i1 : (0 : Int) ≤ (m : Int) := by omega
        have i2 : (m : Int) ≤ (cap : Int) := by omega
        clear L1 hq
        go_upto_region 7 with fail
        obtain ⟨W7, hW7⟩ : ∃ Y, Y = wr := ⟨_, rfl⟩
        subst hW7
        refine wp_region_y [33, 34, 35, 36, 37, 38, 39, 40, 41, 42, 43, 44, 45, 46, 0] [0, 1, 2, 3, 4, 5, 6, 7, 8, 9, 10, 11, 12, 13] [fun y => y = (.int .i64 0 : Value), fun y => y = (.int .i64 0 : Value), fun y => y = (.pointer (some ⟨D, 15, none⟩) : Value), fun y => y = (.pointer (some ⟨D, 15, none⟩) : Value), fun y => y = (.slice g q cap : Value), fun y => y = (.int .i64 0 : Value), fun y => y = (.pointer (some ⟨D, 15, none⟩) : Value), fun y => y = (.pointer (some ⟨D, 15, none⟩) : Value), fun y => y = (.slice g q cap : Value), fun y => y = (.int .i64 q : Value), fun y => y = (.int .i64 m : Value), fun y => y = (.slice g m cap : Value), fun y => y = (.pointer (some ⟨D, 15, none⟩) : Value), fun y => y = (.pointer (some ⟨D, 15, none⟩) : Value), fun _ => True] (fun D_ y wx => Rest D W7 wx ∧ Blk wx D 29 (NumT.f ⟨dyr, dmo, dba, dfe, dre, dta, dad, dcu, dt0, dt1, dt2, dt3, dt4⟩ l3 n3 (if D_ 14 = true then .slice g m cap else .slice g q cap) b c)) [0, 1, 2, 3, 4, 5, 6, 7, 8, 9, 10, 11, 12, 13, 14] (by kernel_rfl) (by kernel_rfl) (by kernel_rfl) (fun _ => ⟨Rest.of_below (Below.refl _ _).drew, bD.then (Below.refl _ _).drew⟩) ?_ ?_
        · refine StepsY.cons (some 33) rfl rfl ?_ ?_
          · intro y wx D_ hg hF hno hD K hK
            simp only [acts, Act.put, List.getD_cons_zero, List.getD_cons_succ, List.setIfInBounds_toArray, List.set_cons_zero, List.set_cons_succ]
            go_simp
            refine hK.out _ _ (afterY_mk (.int .i64 0 : Value) ?_ rfl (by simpa using hg))
            simp only [acts, Act.put, List.getD_cons_zero, List.getD_cons_succ, List.setIfInBounds_toArray, List.set_cons_zero, List.set_cons_succ]
          refine StepsY.cons (some 34) rfl rfl ?_ ?_
          · intro y wx D_ hg hF hno hD K hK
            simp only [acts, Act.put, List.getD_cons_zero, List.getD_cons_succ, List.setIfInBounds_toArray, List.set_cons_zero, List.set_cons_succ]
            go_simp
            refine hK.out _ _ (afterY_mk (.int .i64 0 : Value) ?_ rfl (by simpa using hg))
            simp only [acts, Act.put, List.getD_cons_zero, List.getD_cons_succ, List.setIfInBounds_toArray, List.set_cons_zero, List.set_cons_succ]
          refine StepsY.cons (some 35) rfl rfl ?_ ?_
          · intro y wx D_ hg hF hno hD K hK
            simp only [acts, Act.put, List.getD_cons_zero, List.getD_cons_succ, List.setIfInBounds_toArray, List.set_cons_zero, List.set_cons_succ]
            go_simp
            refine hK.out _ _ (afterY_mk (.pointer (some ⟨D, 15, none⟩) : Value) ?_ rfl (by simpa using hg))
            simp only [acts, Act.put, List.getD_cons_zero, List.getD_cons_succ, List.setIfInBounds_toArray, List.set_cons_zero, List.set_cons_succ]
          refine StepsY.cons (some 36) rfl rfl ?_ ?_
          · intro y wx D_ hg hF hno hD K hK
            have f2 : y 2 = (.pointer (some ⟨D, 15, none⟩) : Value) := (hF 2 (by kernel_rfl)).2
            have f1 : y 1 = (.int .i64 0 : Value) := (hF 1 (by kernel_rfl)).2
            simp only [acts, Act.put, List.getD_cons_zero, List.getD_cons_succ, List.setIfInBounds_toArray, List.set_cons_zero, List.set_cons_succ]
            try simp only [f2, f1]
            go_simp
            refine hK.out _ _ (afterY_mk (.pointer (some ⟨D, 15, none⟩) : Value) ?_ rfl (by simpa using hg))
            simp only [acts, Act.put, List.getD_cons_zero, List.getD_cons_succ, List.setIfInBounds_toArray, List.set_cons_zero, List.set_cons_succ]
            try simp only [f2, f1]
          refine StepsY.cons (some 37) rfl rfl ?_ ?_
          · intro y wx D_ hg hF hno hD K hK
            have f3 : y 3 = (.pointer (some ⟨D, 15, none⟩) : Value) := (hF 3 (by kernel_rfl)).2
            have h0 : D_ 14 = false := hno 14 (by kernel_rfl)
            have bg := hg.2
            rw [h0] at bg
            have p0 : wx.cell? ⟨D, 15, none⟩ = some (.slice g q cap) := bg.cell 15 _ rfl
            clear bg h0
            simp only [acts, Act.put, List.getD_cons_zero, List.getD_cons_succ, List.setIfInBounds_toArray, List.set_cons_zero, List.set_cons_succ]
            try simp only [f3]
            go_simp
            refine hK.out _ _ (afterY_mk (.slice g q cap : Value) ?_ rfl (by simpa using hg))
            simp only [acts, Act.put, List.getD_cons_zero, List.getD_cons_succ, List.setIfInBounds_toArray, List.set_cons_zero, List.set_cons_succ]
            try simp only [f3]
          refine StepsY.cons (some 38) rfl rfl ?_ ?_
          · intro y wx D_ hg hF hno hD K hK
            simp only [acts, Act.put, List.getD_cons_zero, List.getD_cons_succ, List.setIfInBounds_toArray, List.set_cons_zero, List.set_cons_succ]
            go_simp
            refine hK.out _ _ (afterY_mk (.int .i64 0 : Value) ?_ rfl (by simpa using hg))
            simp only [acts, Act.put, List.getD_cons_zero, List.getD_cons_succ, List.setIfInBounds_toArray, List.set_cons_zero, List.set_cons_succ]
          refine StepsY.cons (some 39) rfl rfl ?_ ?_
          · intro y wx D_ hg hF hno hD K hK
            simp only [acts, Act.put, List.getD_cons_zero, List.getD_cons_succ, List.setIfInBounds_toArray, List.set_cons_zero, List.set_cons_succ]
            go_simp
            refine hK.out _ _ (afterY_mk (.pointer (some ⟨D, 15, none⟩) : Value) ?_ rfl (by simpa using hg))
            simp only [acts, Act.put, List.getD_cons_zero, List.getD_cons_succ, List.setIfInBounds_toArray, List.set_cons_zero, List.set_cons_succ]
          refine StepsY.cons (some 40) rfl rfl ?_ ?_
          · intro y wx D_ hg hF hno hD K hK
            have f6 : y 6 = (.pointer (some ⟨D, 15, none⟩) : Value) := (hF 6 (by kernel_rfl)).2
            have f5 : y 5 = (.int .i64 0 : Value) := (hF 5 (by kernel_rfl)).2
            simp only [acts, Act.put, List.getD_cons_zero, List.getD_cons_succ, List.setIfInBounds_toArray, List.set_cons_zero, List.set_cons_succ]
            try simp only [f6, f5]
            go_simp
            refine hK.out _ _ (afterY_mk (.pointer (some ⟨D, 15, none⟩) : Value) ?_ rfl (by simpa using hg))
            simp only [acts, Act.put, List.getD_cons_zero, List.getD_cons_succ, List.setIfInBounds_toArray, List.set_cons_zero, List.set_cons_succ]
            try simp only [f6, f5]
          refine StepsY.cons (some 41) rfl rfl ?_ ?_
          · intro y wx D_ hg hF hno hD K hK
            have f7 : y 7 = (.pointer (some ⟨D, 15, none⟩) : Value) := (hF 7 (by kernel_rfl)).2
            have h0 : D_ 14 = false := hno 14 (by kernel_rfl)
            have bg := hg.2
            rw [h0] at bg
            have p0 : wx.cell? ⟨D, 15, none⟩ = some (.slice g q cap) := bg.cell 15 _ rfl
            clear bg h0
            simp only [acts, Act.put, List.getD_cons_zero, List.getD_cons_succ, List.setIfInBounds_toArray, List.set_cons_zero, List.set_cons_succ]
            try simp only [f7]
            go_simp
            refine hK.out _ _ (afterY_mk (.slice g q cap : Value) ?_ rfl (by simpa using hg))
            simp only [acts, Act.put, List.getD_cons_zero, List.getD_cons_succ, List.setIfInBounds_toArray, List.set_cons_zero, List.set_cons_succ]
            try simp only [f7]
          refine StepsY.cons (some 42) rfl rfl ?_ ?_
          · intro y wx D_ hg hF hno hD K hK
            have f8 : y 8 = (.slice g q cap : Value) := (hF 8 (by kernel_rfl)).2
            simp only [acts, Act.put, List.getD_cons_zero, List.getD_cons_succ, List.setIfInBounds_toArray, List.set_cons_zero, List.set_cons_succ]
            try simp only [f8]
            go_simp
            refine hK.out _ _ (afterY_mk (.int .i64 q : Value) ?_ rfl (by simpa using hg))
            simp only [acts, Act.put, List.getD_cons_zero, List.getD_cons_succ, List.setIfInBounds_toArray, List.set_cons_zero, List.set_cons_succ]
            try simp only [f8]
          refine StepsY.cons (some 43) rfl rfl ?_ ?_
          · intro y wx D_ hg hF hno hD K hK
            have f9 : y 9 = (.int .i64 q : Value) := (hF 9 (by kernel_rfl)).2
            simp only [acts, Act.put, List.getD_cons_zero, List.getD_cons_succ, List.setIfInBounds_toArray, List.set_cons_zero, List.set_cons_succ]
            try simp only [f9]
            go_simp
            refine hK.out _ _ (afterY_mk (.int .i64 m : Value) ?_ rfl (by simpa using hg))
            simp only [acts, Act.put, List.getD_cons_zero, List.getD_cons_succ, List.setIfInBounds_toArray, List.set_cons_zero, List.set_cons_succ]
            try simp only [f9]
          refine StepsY.cons (some 44) rfl rfl ?_ ?_
          · intro y wx D_ hg hF hno hD K hK
            have f4 : y 4 = (.slice g q cap : Value) := (hF 4 (by kernel_rfl)).2
            have f10 : y 10 = (.int .i64 m : Value) := (hF 10 (by kernel_rfl)).2
            simp only [acts, Act.put, List.getD_cons_zero, List.getD_cons_succ, List.setIfInBounds_toArray, List.set_cons_zero, List.set_cons_succ]
            try simp only [f4, f10]
            go_simp
            refine hK.out _ _ (afterY_mk (.slice g m cap : Value) ?_ rfl (by simpa using hg))
            simp only [acts, Act.put, List.getD_cons_zero, List.getD_cons_succ, List.setIfInBounds_toArray, List.set_cons_zero, List.set_cons_succ]
            try simp only [f4, f10]
          refine StepsY.cons (some 45) rfl rfl ?_ ?_
          · intro y wx D_ hg hF hno hD K hK
            simp only [acts, Act.put, List.getD_cons_zero, List.getD_cons_succ, List.setIfInBounds_toArray, List.set_cons_zero, List.set_cons_succ]
            go_simp
            refine hK.out _ _ (afterY_mk (.pointer (some ⟨D, 15, none⟩) : Value) ?_ rfl (by simpa using hg))
            simp only [acts, Act.put, List.getD_cons_zero, List.getD_cons_succ, List.setIfInBounds_toArray, List.set_cons_zero, List.set_cons_succ]
          refine StepsY.cons (some 46) rfl rfl ?_ ?_
          · intro y wx D_ hg hF hno hD K hK
            have f12 : y 12 = (.pointer (some ⟨D, 15, none⟩) : Value) := (hF 12 (by kernel_rfl)).2
            have f0 : y 0 = (.int .i64 0 : Value) := (hF 0 (by kernel_rfl)).2
            simp only [acts, Act.put, List.getD_cons_zero, List.getD_cons_succ, List.setIfInBounds_toArray, List.set_cons_zero, List.set_cons_succ]
            try simp only [f12, f0]
            go_simp
            refine hK.out _ _ (afterY_mk (.pointer (some ⟨D, 15, none⟩) : Value) ?_ rfl (by simpa using hg))
            simp only [acts, Act.put, List.getD_cons_zero, List.getD_cons_succ, List.setIfInBounds_toArray, List.set_cons_zero, List.set_cons_succ]
            try simp only [f12, f0]
          refine StepsY.cons none rfl rfl ?_ ?_
          · intro y wx D_ hg hF hno hD K hK
            have f13 : y 13 = (.pointer (some ⟨D, 15, none⟩) : Value) := (hF 13 (by kernel_rfl)).2
            have f11 : y 11 = (.slice g m cap : Value) := (hF 11 (by kernel_rfl)).2
            have bg := hg.2
            have h1 : wx.frozen? ⟨D, 15, none⟩ = false := bg.frozen 15
            rw [hD] at bg
            have p0 := bg.cell 15 _ rfl
            rw [if_pos (by rfl)]
            simp only [acts, Act.put, List.getD_cons_zero, List.getD_cons_succ, List.setIfInBounds_toArray, List.set_cons_zero, List.set_cons_succ]
            refine wp_store_slice 26 (.tmp 46) (.tmp 44) rfl D 15 (.slice g m cap) _ (by exact f13) (by exact f11) (by kernel_rfl) ⟨_, _, _, rfl⟩ p0 h1 ?_
            refine hK.out _ _ (afterY_mk undef ?_ trivial ?_)
            · (try simp only [acts, Act.put, List.getD_cons_zero, List.getD_cons_succ, List.setIfInBounds_toArray, List.set_cons_zero, List.set_cons_succ]); (try go_simp)
            · have q := (hg.1).trans (Rest.set D 15 wx (.slice g m cap))
              have q2 := bg.set 15 (.slice g m cap)
              refine ⟨q, ?_⟩
              simpa [NumT.f] using q2
          exact StepsY.nil
        · intro y wx hF hg
          have v0 : y 0 = (.int .i64 0 : Value) := hF 0 (by decide)
          have v1 : y 1 = (.int .i64 0 : Value) := hF 1 (by decide)
          have v2 : y 2 = (.pointer (some ⟨D, 15, none⟩) : Value) := hF 2 (by decide)
          have v3 : y 3 = (.pointer (some ⟨D, 15, none⟩) : Value) := hF 3 (by decide)
          have v4 : y 4 = (.slice g q cap : Value) := hF 4 (by decide)
          have v5 : y 5 = (.int .i64 0 : Value) := hF 5 (by decide)
          have v6 : y 6 = (.pointer (some ⟨D, 15, none⟩) : Value) := hF 6 (by decide)
          have v7 : y 7 = (.pointer (some ⟨D, 15, none⟩) : Value) := hF 7 (by decide)
          have v8 : y 8 = (.slice g q cap : Value) := hF 8 (by decide)
          have v9 : y 9 = (.int .i64 q : Value) := hF 9 (by decide)
          have v10 : y 10 = (.int .i64 m : Value) := hF 10 (by decide)
          have v11 : y 11 = (.slice g m cap : Value) := hF 11 (by decide)
          have v12 : y 12 = (.pointer (some ⟨D, 15, none⟩) : Value) := hF 12 (by decide)
          have v13 : y 13 = (.pointer (some ⟨D, 15, none⟩) : Value) := hF 13 (by decide)
          clear hF
          simp only [acts, Act.put, List.getD_cons_zero, List.getD_cons_succ, List.setIfInBounds_toArray, List.set_cons_zero, List.set_cons_succ]
          rw [v0, v1, v2, v3, v4, v5, v6, v7, v8, v9, v10, v11, v12, v13]
          clear v0 v1 v2 v3 v4 v5 v6 v7 v8 v9 v10 v11 v12 v13
          have hR := hg.1
          have hV : Blk wx D 29 (NumT.f ⟨dyr, dmo, dba, dfe, dre, dta, dad, dcu, dt0, dt1, dt2, dt3, dt4⟩ l3 n3 (.slice g m cap) b c) := hg.2
          clear hg
          have hB2 := hR.below hB hDw hB.size
          replace bK := bK.rest hR hDK
          have h0' := h0.take m ma
          clear e1a e1b e1c i1 i2 hR hB h0 bD
          go_wp2_with fail
          go_roundw
          case rel => exact ⟨1, _, _, _, _, _, _, by omega, by omega, by go_num, h0', h1, h2, hV, bK, hB2⟩
          case measure => simp [intOf]
      · obtain ⟨g, cap, rfl, _, _, _, _⟩ := id h1
        obtain ⟨q, hq⟩ : ∃ k, y.length = k := ⟨_, rfl⟩
        rw [hq] at h1 bD
        obtain ⟨m, ma, _, e1a, e1b, e1c⟩ := few q 20
        replace e1a : min (q : Int) ((20 : Int)) = (m : Int) := e1a
        replace e1b : (if (20 : Int) < (q : Int) then (20 : Int) else (q : Int)) = (m : Int) := e1b
        replace e1c : (if (q : Int) < (20 : Int) then (q : Int) else (20 : Int)) = (m : Int) := e1c
        have L1 := h1.len
        have i1 : (0 : Int) ≤ (m : Int) := by omega
        have i2 : (m : Int) ≤ (cap : Int) := by omega
        clear L1 hq
        go_upto_region 7 with fail
        obtain ⟨W7, hW7⟩ : ∃ Y, Y = wr := ⟨_, rfl⟩
        subst hW7
        refine wp_region_y [33, 34, 35, 36, 37, 38, 39, 40, 41, 42, 43, 44, 45, 46, 0] [0, 1, 2, 3, 4, 5, 6, 7, 8, 9, 10, 11, 12, 13] [fun y => y = (.int .i64 1 : Value), fun y => y = (.int .i64 1 : Value), fun y => y = (.pointer (some ⟨D, 15, none⟩) : Value), fun y => y = (.pointer (some ⟨D, 16, none⟩) : Value), fun y => y = (.slice g q cap : Value), fun y => y = (.int .i64 1 : Value), fun y => y = (.pointer (some ⟨D, 15, none⟩) : Value), fun y => y = (.pointer (some ⟨D, 16, none⟩) : Value), fun y => y = (.slice g q cap : Value), fun y => y = (.int .i64 q : Value), fun y => y = (.int .i64 m : Value), fun y => y = (.slice g m cap : Value), fun y => y = (.pointer (some ⟨D, 15, none⟩) : Value), fun y => y = (.pointer (some ⟨D, 16, none⟩) : Value), fun _ => True] (fun D_ y wx => Rest D W7 wx ∧ Blk wx D 29 (NumT.f ⟨dyr, dmo, dba, dfe, dre, dta, dad, dcu, dt0, dt1, dt2, dt3, dt4⟩ l3 n3 a (if D_ 14 = true then .slice g m cap else .slice g q cap) c)) [0, 1, 2, 3, 4, 5, 6, 7, 8, 9, 10, 11, 12, 13, 14] (by kernel_rfl) (by kernel_rfl) (by kernel_rfl) (fun _ => ⟨Rest.of_below (Below.refl _ _).drew, bD.then (Below.refl _ _).drew⟩) ?_ ?_
        · refine StepsY.cons (some 33) rfl rfl ?_ ?_
          · intro y wx D_ hg hF hno hD K hK
            simp only [acts, Act.put, List.getD_cons_zero, List.getD_cons_succ, List.setIfInBounds_toArray, List.set_cons_zero, List.set_cons_succ]
            go_simp
            refine hK.out _ _ (afterY_mk (.int .i64 1 : Value) ?_ rfl (by simpa using hg))
            simp only [acts, Act.put, List.getD_cons_zero, List.getD_cons_succ, List.setIfInBounds_toArray, List.set_cons_zero, List.set_cons_succ]
          refine StepsY.cons (some 34) rfl rfl ?_ ?_
          · intro y wx D_ hg hF hno hD K hK
            simp only [acts, Act.put, List.getD_cons_zero, List.getD_cons_succ, List.setIfInBounds_toArray, List.set_cons_zero, List.set_cons_succ]
            go_simp
            refine hK.out _ _ (afterY_mk (.int .i64 1 : Value) ?_ rfl (by simpa using hg))
            simp only [acts, Act.put, List.getD_cons_zero, List.getD_cons_succ, List.setIfInBounds_toArray, List.set_cons_zero, List.set_cons_succ]
          refine StepsY.cons (some 35) rfl rfl ?_ ?_
          · intro y wx D_ hg hF hno hD K hK
            simp only [acts, Act.put, List.getD_cons_zero, List.getD_cons_succ, List.setIfInBounds_toArray, List.set_cons_zero, List.set_cons_succ]
            go_simp
            refine hK.out _ _ (afterY_mk (.pointer (some ⟨D, 15, none⟩) : Value) ?_ rfl (by simpa using hg))
            simp only [acts, Act.put, List.getD_cons_zero, List.getD_cons_succ, List.setIfInBounds_toArray, List.set_cons_zero, List.set_cons_succ]
          refine StepsY.cons (some 36) rfl rfl ?_ ?_
          · intro y wx D_ hg hF hno hD K hK
            have f2 : y 2 = (.pointer (some ⟨D, 15, none⟩) : Value) := (hF 2 (by kernel_rfl)).2
            have f1 : y 1 = (.int .i64 1 : Value) := (hF 1 (by kernel_rfl)).2
            simp only [acts, Act.put, List.getD_cons_zero, List.getD_cons_succ, List.setIfInBounds_toArray, List.set_cons_zero, List.set_cons_succ]
            try simp only [f2, f1]
            go_simp
            refine hK.out _ _ (afterY_mk (.pointer (some ⟨D, 16, none⟩) : Value) ?_ rfl (by simpa using hg))
            simp only [acts, Act.put, List.getD_cons_zero, List.getD_cons_succ, List.setIfInBounds_toArray, List.set_cons_zero, List.set_cons_succ]
            try simp only [f2, f1]
          refine StepsY.cons (some 37) rfl rfl ?_ ?_
          · intro y wx D_ hg hF hno hD K hK
            have f3 : y 3 = (.pointer (some ⟨D, 16, none⟩) : Value) := (hF 3 (by kernel_rfl)).2
            have h0 : D_ 14 = false := hno 14 (by kernel_rfl)
            have bg := hg.2
            rw [h0] at bg
            have p0 : wx.cell? ⟨D, 16, none⟩ = some (.slice g q cap) := bg.cell 16 _ rfl
            clear bg h0
            simp only [acts, Act.put, List.getD_cons_zero, List.getD_cons_succ, List.setIfInBounds_toArray, List.set_cons_zero, List.set_cons_succ]
            try simp only [f3]
            go_simp
            refine hK.out _ _ (afterY_mk (.slice g q cap : Value) ?_ rfl (by simpa using hg))
            simp only [acts, Act.put, List.getD_cons_zero, List.getD_cons_succ, List.setIfInBounds_toArray, List.set_cons_zero, List.set_cons_succ]
            try simp only [f3]
          refine StepsY.cons (some 38) rfl rfl ?_ ?_
          · intro y wx D_ hg hF hno hD K hK
            simp only [acts, Act.put, List.getD_cons_zero, List.getD_cons_succ, List.setIfInBounds_toArray, List.set_cons_zero, List.set_cons_succ]
            go_simp
            refine hK.out _ _ (afterY_mk (.int .i64 1 : Value) ?_ rfl (by simpa using hg))
            simp only [acts, Act.put, List.getD_cons_zero, List.getD_cons_succ, List.setIfInBounds_toArray, List.set_cons_zero, List.set_cons_succ]
          refine StepsY.cons (some 39) rfl rfl ?_ ?_
          · intro y wx D_ hg hF hno hD K hK
            simp only [acts, Act.put, List.getD_cons_zero, List.getD_cons_succ, List.setIfInBounds_toArray, List.set_cons_zero, List.set_cons_succ]
            go_simp
            refine hK.out _ _ (afterY_mk (.pointer (some ⟨D, 15, none⟩) : Value) ?_ rfl (by simpa using hg))
            simp only [acts, Act.put, List.getD_cons_zero, List.getD_cons_succ, List.setIfInBounds_toArray, List.set_cons_zero, List.set_cons_succ]
          refine StepsY.cons (some 40) rfl rfl ?_ ?_
          · intro y wx D_ hg hF hno hD K hK
            have f6 : y 6 = (.pointer (some ⟨D, 15, none⟩) : Value) := (hF 6 (by kernel_rfl)).2
            have f5 : y 5 = (.int .i64 1 : Value) := (hF 5 (by kernel_rfl)).2
            simp only [acts, Act.put, List.getD_cons_zero, List.getD_cons_succ, List.setIfInBounds_toArray, List.set_cons_zero, List.set_cons_succ]
            try simp only [f6, f5]
            go_simp
            refine hK.out _ _ (afterY_mk (.pointer (some ⟨D, 16, none⟩) : Value) ?_ rfl (by simpa using hg))
            simp only [acts, Act.put, List.getD_cons_zero, List.getD_cons_succ, List.setIfInBounds_toArray, List.set_cons_zero, List.set_cons_succ]
            try simp only [f6, f5]
          refine StepsY.cons (some 41) rfl rfl ?_ ?_
          · intro y wx D_ hg hF hno hD K hK
            have f7 : y 7 = (.pointer (some ⟨D, 16, none⟩) : Value) := (hF 7 (by kernel_rfl)).2
            have h0 : D_ 14 = false := hno 14 (by kernel_rfl)
            have bg := hg.2
            rw [h0] at bg
            have p0 : wx.cell? ⟨D, 16, none⟩ = some (.slice g q cap) := bg.cell 16 _ rfl
            clear bg h0
            simp only [acts, Act.put, List.getD_cons_zero, List.getD_cons_succ, List.setIfInBounds_toArray, List.set_cons_zero, List.set_cons_succ]
            try simp only [f7]
            go_simp
            refine hK.out _ _ (afterY_mk (.slice g q cap : Value) ?_ rfl (by simpa using hg))
            simp only [acts, Act.put, List.getD_cons_zero, List.getD_cons_succ, List.setIfInBounds_toArray, List.set_cons_zero, List.set_cons_succ]
            try simp only [f7]
          refine StepsY.cons (some 42) rfl rfl ?_ ?_
          · intro y wx D_ hg hF hno hD K hK
            have f8 : y 8 = (.slice g q cap : Value) := (hF 8 (by kernel_rfl)).2
            simp only [acts, Act.put, List.getD_cons_zero, List.getD_cons_succ, List.setIfInBounds_toArray, List.set_cons_zero, List.set_cons_succ]
            try simp only [f8]
            go_simp
            refine hK.out _ _ (afterY_mk (.int .i64 q : Value) ?_ rfl (by simpa using hg))
            simp only [acts, Act.put, List.getD_cons_zero, List.getD_cons_succ, List.setIfInBounds_toArray, List.set_cons_zero, List.set_cons_succ]
            try simp only [f8]
          refine StepsY.cons (some 43) rfl rfl ?_ ?_
          · intro y wx D_ hg hF hno hD K hK
            have f9 : y 9 = (.int .i64 q : Value) := (hF 9 (by kernel_rfl)).2
            simp only [acts, Act.put, List.getD_cons_zero, List.getD_cons_succ, List.setIfInBounds_toArray, List.set_cons_zero, List.set_cons_succ]
            try simp only [f9]
            go_simp
            refine hK.out _ _ (afterY_mk (.int .i64 m : Value) ?_ rfl (by simpa using hg))
            simp only [acts, Act.put, List.getD_cons_zero, List.getD_cons_succ, List.setIfInBounds_toArray, List.set_cons_zero, List.set_cons_succ]
            try simp only [f9]
          refine StepsY.cons (some 44) rfl rfl ?_ ?_
          · intro y wx D_ hg hF hno hD K hK
            have f4 : y 4 = (.slice g q cap : Value) := (hF 4 (by kernel_rfl)).2
            have f10 : y 10 = (.int .i64 m : Value) := (hF 10 (by kernel_rfl)).2
            simp only [acts, Act.put, List.getD_cons_zero, List.getD_cons_succ, List.setIfInBounds_toArray, List.set_cons_zero, List.set_cons_succ]
            try simp only [f4, f10]
            go_simp
            refine hK.out _ _ (afterY_mk (.slice g m cap : Value) ?_ rfl (by simpa using hg))
            simp only [acts, Act.put, List.getD_cons_zero, List.getD_cons_succ, List.setIfInBounds_toArray, List.set_cons_zero, List.set_cons_succ]
            try simp only [f4, f10]
          refine StepsY.cons (some 45) rfl rfl ?_ ?_
          · intro y wx D_ hg hF hno hD K hK
            simp only [acts, Act.put, List.getD_cons_zero, List.getD_cons_succ, List.setIfInBounds_toArray, List.set_cons_zero, List.set_cons_succ]
            go_simp
            refine hK.out _ _ (afterY_mk (.pointer (some ⟨D, 15, none⟩) : Value) ?_ rfl (by simpa using hg))
            simp only [acts, Act.put, List.getD_cons_zero, List.getD_cons_succ, List.setIfInBounds_toArray, List.set_cons_zero, List.set_cons_succ]
          refine StepsY.cons (some 46) rfl rfl ?_ ?_
          · intro y wx D_ hg hF hno hD K hK
            have f12 : y 12 = (.pointer (some ⟨D, 15, none⟩) : Value) := (hF 12 (by kernel_rfl)).2
            have f0 : y 0 = (.int .i64 1 : Value) := (hF 0 (by kernel_rfl)).2
            simp only [acts, Act.put, List.getD_cons_zero, List.getD_cons_succ, List.setIfInBounds_toArray, List.set_cons_zero, List.set_cons_succ]
            try simp only [f12, f0]
            go_simp
            refine hK.out _ _ (afterY_mk (.pointer (some ⟨D, 16, none⟩) : Value) ?_ rfl (by simpa using hg))
            simp only [acts, Act.put, List.getD_cons_zero, List.getD_cons_succ, List.setIfInBounds_toArray, List.set_cons_zero, List.set_cons_succ]
            try simp only [f12, f0]
          refine StepsY.cons none rfl rfl ?_ ?_
          · intro y wx D_ hg hF hno hD K hK
            have f13 : y 13 = (.pointer (some ⟨D, 16, none⟩) : Value) := (hF 13 (by kernel_rfl)).2
            have f11 : y 11 = (.slice g m cap : Value) := (hF 11 (by kernel_rfl)).2
            have bg := hg.2
            have h1 : wx.frozen? ⟨D, 16, none⟩ = false := bg.frozen 16
            rw [hD] at bg
            have p0 := bg.cell 16 _ rfl
            rw [if_pos (by rfl)]
            simp only [acts, Act.put, List.getD_cons_zero, List.getD_cons_succ, List.setIfInBounds_toArray, List.set_cons_zero, List.set_cons_succ]
            refine wp_store_slice 26 (.tmp 46) (.tmp 44) rfl D 16 (.slice g m cap) _ (by exact f13) (by exact f11) (by kernel_rfl) ⟨_, _, _, rfl⟩ p0 h1 ?_
            refine hK.out _ _ (afterY_mk undef ?_ trivial ?_)
            · (try simp only [acts, Act.put, List.getD_cons_zero, List.getD_cons_succ, List.setIfInBounds_toArray, List.set_cons_zero, List.set_cons_succ]); (try go_simp)
            · have q := (hg.1).trans (Rest.set D 16 wx (.slice g m cap))
              have q2 := bg.set 16 (.slice g m cap)
              refine ⟨q, ?_⟩
              simpa [NumT.f] using q2
          exact StepsY.nil
        · intro y wx hF hg
          have v0 : y 0 = (.int .i64 1 : Value) := hF 0 (by decide)
          have v1 : y 1 = (.int .i64 1 : Value) := hF 1 (by decide)
          have v2 : y 2 = (.pointer (some ⟨D, 15, none⟩) : Value) := hF 2 (by decide)
          have v3 : y 3 = (.pointer (some ⟨D, 16, none⟩) : Value) := hF 3 (by decide)
          have v4 : y 4 = (.slice g q cap : Value) := hF 4 (by decide)
          have v5 : y 5 = (.int .i64 1 : Value) := hF 5 (by decide)
          have v6 : y 6 = (.pointer (some ⟨D, 15, none⟩) : Value) := hF 6 (by decide)
          have v7 : y 7 = (.pointer (some ⟨D, 16, none⟩) : Value) := hF 7 (by decide)
          have v8 : y 8 = (.slice g q cap : Value) := hF 8 (by decide)
          have v9 : y 9 = (.int .i64 q : Value) := hF 9 (by decide)
          have v10 : y 10 = (.int .i64 m : Value) := hF 10 (by decide)
          have v11 : y 11 = (.slice g m cap : Value) := hF 11 (by decide)
          have v12 : y 12 = (.pointer (some ⟨D, 15, none⟩) : Value) := hF 12 (by decide)
          have v13 : y 13 = (.pointer (some ⟨D, 16, none⟩) : Value) := hF 13 (by decide)
          clear hF
          simp only [acts, Act.put, List.getD_cons_zero, List.getD_cons_succ, List.setIfInBounds_toArray, List.set_cons_zero, List.set_cons_succ]
          rw [v0, v1, v2, v3, v4, v5, v6, v7, v8, v9, v10, v11, v12, v13]
          clear v0 v1 v2 v3 v4 v5 v6 v7 v8 v9 v10 v11 v12 v13
          have hR := hg.1
          have hV : Blk wx D 29 (NumT.f ⟨dyr, dmo, dba, dfe, dre, dta, dad, dcu, dt0, dt1, dt2, dt3, dt4⟩ l3 n3 a (.slice g m cap) c) := hg.2
          clear hg
          have hB2 := hR.below hB hDw hB.size
          replace bK := bK.rest hR hDK
          have h1' := h1.take m ma
          clear e1a e1b e1c i1 i2 hR hB h1 bD
          go_wp2_with fail
          go_roundw
          case rel => exact ⟨2, _, _, _, _, _, _, by omega, by omega, by go_num, h0, h1', h2, hV, bK, hB2⟩
          case measure => simp [intOf]
      · obtain ⟨g, cap, rfl, _, _, _, _⟩ := id h2
        obtain ⟨q, hq⟩ : ∃ k, z.length = k := ⟨_, rfl⟩
        rw [hq] at h2 bD
        obtain ⟨m, ma, _, e1a, e1b, e1c⟩ := few q 20
        replace e1a : min (q : Int) ((20 : Int)) = (m : Int) := e1a
        replace e1b : (if (20 : Int) < (q : Int) then (20 : Int) else (q : Int)) = (m : Int) := e1b
        replace e1c : (if (q : Int) < (20 : Int) then (q : Int) else (20 : Int)) = (m : Int) := e1c
        have L1 := h2.len
        have i1 : (0 : Int) ≤ (m : Int) := by omega
        have i2 : (m : Int) ≤ (cap : Int) := by omega
        clear L1 hq
        go_upto_region 7 with fail
        obtain ⟨W7, hW7⟩ : ∃ Y, Y = wr := ⟨_, rfl⟩
        subst hW7
        refine wp_region_y [33, 34, 35, 36, 37, 38, 39, 40, 41, 42, 43, 44, 45, 46, 0] [0, 1, 2, 3, 4, 5, 6, 7, 8, 9, 10, 11, 12, 13] [fun y => y = (.int .i64 2 : Value), fun y => y = (.int .i64 2 : Value), fun y => y = (.pointer (some ⟨D, 15, none⟩) : Value), fun y => y = (.pointer (some ⟨D, 17, none⟩) : Value), fun y => y = (.slice g q cap : Value), fun y => y = (.int .i64 2 : Value), fun y => y = (.pointer (some ⟨D, 15, none⟩) : Value), fun y => y = (.pointer (some ⟨D, 17, none⟩) : Value), fun y => y = (.slice g q cap : Value), fun y => y = (.int .i64 q : Value), fun y => y = (.int .i64 m : Value), fun y => y = (.slice g m cap : Value), fun y => y = (.pointer (some ⟨D, 15, none⟩) : Value), fun y => y = (.pointer (some ⟨D, 17, none⟩) : Value), fun _ => True] (fun D_ y wx => Rest D W7 wx ∧ Blk wx D 29 (NumT.f ⟨dyr, dmo, dba, dfe, dre, dta, dad, dcu, dt0, dt1, dt2, dt3, dt4⟩ l3 n3 a b (if D_ 14 = true then .slice g m cap else .slice g q cap))) [0, 1, 2, 3, 4, 5, 6, 7, 8, 9, 10, 11, 12, 13, 14] (by kernel_rfl) (by kernel_rfl) (by kernel_rfl) (fun _ => ⟨Rest.of_below (Below.refl _ _).drew, bD.then (Below.refl _ _).drew⟩) ?_ ?_
        · refine StepsY.cons (some 33) rfl rfl ?_ ?_
          · intro y wx D_ hg hF hno hD K hK
            simp only [acts, Act.put, List.getD_cons_zero, List.getD_cons_succ, List.setIfInBounds_toArray, List.set_cons_zero, List.set_cons_succ]
            go_simp
            refine hK.out _ _ (afterY_mk (.int .i64 2 : Value) ?_ rfl (by simpa using hg))
            simp only [acts, Act.put, List.getD_cons_zero, List.getD_cons_succ, List.setIfInBounds_toArray, List.set_cons_zero, List.set_cons_succ]
          refine StepsY.cons (some 34) rfl rfl ?_ ?_
          · intro y wx D_ hg hF hno hD K hK
            simp only [acts, Act.put, List.getD_cons_zero, List.getD_cons_succ, List.setIfInBounds_toArray, List.set_cons_zero, List.set_cons_succ]
            go_simp
            refine hK.out _ _ (afterY_mk (.int .i64 2 : Value) ?_ rfl (by simpa using hg))
            simp only [acts, Act.put, List.getD_cons_zero, List.getD_cons_succ, List.setIfInBounds_toArray, List.set_cons_zero, List.set_cons_succ]
          refine StepsY.cons (some 35) rfl rfl ?_ ?_
          · intro y wx D_ hg hF hno hD K hK
            simp only [acts, Act.put, List.getD_cons_zero, List.getD_cons_succ, List.setIfInBounds_toArray, List.set_cons_zero, List.set_cons_succ]
            go_simp
            refine hK.out _ _ (afterY_mk (.pointer (some ⟨D, 15, none⟩) : Value) ?_ rfl (by simpa using hg))
            simp only [acts, Act.put, List.getD_cons_zero, List.getD_cons_succ, List.setIfInBounds_toArray, List.set_cons_zero, List.set_cons_succ]
          refine StepsY.cons (some 36) rfl rfl ?_ ?_
          · intro y wx D_ hg hF hno hD K hK
            have f2 : y 2 = (.pointer (some ⟨D, 15, none⟩) : Value) := (hF 2 (by kernel_rfl)).2
            have f1 : y 1 = (.int .i64 2 : Value) := (hF 1 (by kernel_rfl)).2
            simp only [acts, Act.put, List.getD_cons_zero, List.getD_cons_succ, List.setIfInBounds_toArray, List.set_cons_zero, List.set_cons_succ]
            try simp only [f2, f1]
            go_simp
            refine hK.out _ _ (afterY_mk (.pointer (some ⟨D, 17, none⟩) : Value) ?_ rfl (by simpa using hg))
            simp only [acts, Act.put, List.getD_cons_zero, List.getD_cons_succ, List.setIfInBounds_toArray, List.set_cons_zero, List.set_cons_succ]
            try simp only [f2, f1]
          refine StepsY.cons (some 37) rfl rfl ?_ ?_
          · intro y wx D_ hg hF hno hD K hK
            have f3 : y 3 = (.pointer (some ⟨D, 17, none⟩) : Value) := (hF 3 (by kernel_rfl)).2
            have h0 : D_ 14 = false := hno 14 (by kernel_rfl)
            have bg := hg.2
            rw [h0] at bg
            have p0 : wx.cell? ⟨D, 17, none⟩ = some (.slice g q cap) := bg.cell 17 _ rfl
            clear bg h0
            simp only [acts, Act.put, List.getD_cons_zero, List.getD_cons_succ, List.setIfInBounds_toArray, List.set_cons_zero, List.set_cons_succ]
            try simp only [f3]
            go_simp
            refine hK.out _ _ (afterY_mk (.slice g q cap : Value) ?_ rfl (by simpa using hg))
            simp only [acts, Act.put, List.getD_cons_zero, List.getD_cons_succ, List.setIfInBounds_toArray, List.set_cons_zero, List.set_cons_succ]
            try simp only [f3]
          refine StepsY.cons (some 38) rfl rfl ?_ ?_
          · intro y wx D_ hg hF hno hD K hK
            simp only [acts, Act.put, List.getD_cons_zero, List.getD_cons_succ, List.setIfInBounds_toArray, List.set_cons_zero, List.set_cons_succ]
            go_simp
            refine hK.out _ _ (afterY_mk (.int .i64 2 : Value) ?_ rfl (by simpa using hg))
            simp only [acts, Act.put, List.getD_cons_zero, List.getD_cons_succ, List.setIfInBounds_toArray, List.set_cons_zero, List.set_cons_succ]
          refine StepsY.cons (some 39) rfl rfl ?_ ?_
          · intro y wx D_ hg hF hno hD K hK
            simp only [acts, Act.put, List.getD_cons_zero, List.getD_cons_succ, List.setIfInBounds_toArray, List.set_cons_zero, List.set_cons_succ]
            go_simp
            refine hK.out _ _ (afterY_mk (.pointer (some ⟨D, 15, none⟩) : Value) ?_ rfl (by simpa using hg))
            simp only [acts, Act.put, List.getD_cons_zero, List.getD_cons_succ, List.setIfInBounds_toArray, List.set_cons_zero, List.set_cons_succ]
          refine StepsY.cons (some 40) rfl rfl ?_ ?_
          · intro y wx D_ hg hF hno hD K hK
            have f6 : y 6 = (.pointer (some ⟨D, 15, none⟩) : Value) := (hF 6 (by kernel_rfl)).2
            have f5 : y 5 = (.int .i64 2 : Value) := (hF 5 (by kernel_rfl)).2
            simp only [acts, Act.put, List.getD_cons_zero, List.getD_cons_succ, List.setIfInBounds_toArray, List.set_cons_zero, List.set_cons_succ]
            try simp only [f6, f5]
            go_simp
            refine hK.out _ _ (afterY_mk (.pointer (some ⟨D, 17, none⟩) : Value) ?_ rfl (by simpa using hg))
            simp only [acts, Act.put, List.getD_cons_zero, List.getD_cons_succ, List.setIfInBounds_toArray, List.set_cons_zero, List.set_cons_succ]
            try simp only [f6, f5]
          refine StepsY.cons (some 41) rfl rfl ?_ ?_
          · intro y wx D_ hg hF hno hD K hK
            have f7 : y 7 = (.pointer (some ⟨D, 17, none⟩) : Value) := (hF 7 (by kernel_rfl)).2
            have h0 : D_ 14 = false := hno 14 (by kernel_rfl)
            have bg := hg.2
            rw [h0] at bg
            have p0 : wx.cell? ⟨D, 17, none⟩ = some (.slice g q cap) := bg.cell 17 _ rfl
            clear bg h0
            simp only [acts, Act.put, List.getD_cons_zero, List.getD_cons_succ, List.setIfInBounds_toArray, List.set_cons_zero, List.set_cons_succ]
            try simp only [f7]
            go_simp
            refine hK.out _ _ (afterY_mk (.slice g q cap : Value) ?_ rfl (by simpa using hg))
            simp only [acts, Act.put, List.getD_cons_zero, List.getD_cons_succ, List.setIfInBounds_toArray, List.set_cons_zero, List.set_cons_succ]
            try simp only [f7]
          refine StepsY.cons (some 42) rfl rfl ?_ ?_
          · intro y wx D_ hg hF hno hD K hK
            have f8 : y 8 = (.slice g q cap : Value) := (hF 8 (by kernel_rfl)).2
            simp only [acts, Act.put, List.getD_cons_zero, List.getD_cons_succ, List.setIfInBounds_toArray, List.set_cons_zero, List.set_cons_succ]
            try simp only [f8]
            go_simp
            refine hK.out _ _ (afterY_mk (.int .i64 q : Value) ?_ rfl (by simpa using hg))
            simp only [acts, Act.put, List.getD_cons_zero, List.getD_cons_succ, List.setIfInBounds_toArray, List.set_cons_zero, List.set_cons_succ]
            try simp only [f8]
          refine StepsY.cons (some 43) rfl rfl ?_ ?_
          · intro y wx D_ hg hF hno hD K hK
            have f9 : y 9 = (.int .i64 q : Value) := (hF 9 (by kernel_rfl)).2
            simp only [acts, Act.put, List.getD_cons_zero, List.getD_cons_succ, List.setIfInBounds_toArray, List.set_cons_zero, List.set_cons_succ]
            try simp only [f9]
            go_simp
            refine hK.out _ _ (afterY_mk (.int .i64 m : Value) ?_ rfl (by simpa using hg))
            simp only [acts, Act.put, List.getD_cons_zero, List.getD_cons_succ, List.setIfInBounds_toArray, List.set_cons_zero, List.set_cons_succ]
            try simp only [f9]
          refine StepsY.cons (some 44) rfl rfl ?_ ?_
          · intro y wx D_ hg hF hno hD K hK
            have f4 : y 4 = (.slice g q cap : Value) := (hF 4 (by kernel_rfl)).2
            have f10 : y 10 = (.int .i64 m : Value) := (hF 10 (by kernel_rfl)).2
            simp only [acts, Act.put, List.getD_cons_zero, List.getD_cons_succ, List.setIfInBounds_toArray, List.set_cons_zero, List.set_cons_succ]
            try simp only [f4, f10]
            go_simp
            refine hK.out _ _ (afterY_mk (.slice g m cap : Value) ?_ rfl (by simpa using hg))
            simp only [acts, Act.put, List.getD_cons_zero, List.getD_cons_succ, List.setIfInBounds_toArray, List.set_cons_zero, List.set_cons_succ]
            try simp only [f4, f10]
          refine StepsY.cons (some 45) rfl rfl ?_ ?_
          · intro y wx D_ hg hF hno hD K hK
            simp only [acts, Act.put, List.getD_cons_zero, List.getD_cons_succ, List.setIfInBounds_toArray, List.set_cons_zero, List.set_cons_succ]
            go_simp
            refine hK.out _ _ (afterY_mk (.pointer (some ⟨D, 15, none⟩) : Value) ?_ rfl (by simpa using hg))
            simp only [acts, Act.put, List.getD_cons_zero, List.getD_cons_succ, List.setIfInBounds_toArray, List.set_cons_zero, List.set_cons_succ]
          refine StepsY.cons (some 46) rfl rfl ?_ ?_
          · intro y wx D_ hg hF hno hD K hK
            have f12 : y 12 = (.pointer (some ⟨D, 15, none⟩) : Value) := (hF 12 (by kernel_rfl)).2
            have f0 : y 0 = (.int .i64 2 : Value) := (hF 0 (by kernel_rfl)).2
            simp only [acts, Act.put, List.getD_cons_zero, List.getD_cons_succ, List.setIfInBounds_toArray, List.set_cons_zero, List.set_cons_succ]
            try simp only [f12, f0]
            go_simp
            refine hK.out _ _ (afterY_mk (.pointer (some ⟨D, 17, none⟩) : Value) ?_ rfl (by simpa using hg))
            simp only [acts, Act.put, List.getD_cons_zero, List.getD_cons_succ, List.setIfInBounds_toArray, List.set_cons_zero, List.set_cons_succ]
            try simp only [f12, f0]
          refine StepsY.cons none rfl rfl ?_ ?_
          · intro y wx D_ hg hF hno hD K hK
            have f13 : y 13 = (.pointer (some ⟨D, 17, none⟩) : Value) := (hF 13 (by kernel_rfl)).2
            have f11 : y 11 = (.slice g m cap : Value) := (hF 11 (by kernel_rfl)).2
            have bg := hg.2
            have h1 : wx.frozen? ⟨D, 17, none⟩ = false := bg.frozen 17
            rw [hD] at bg
            have p0 := bg.cell 17 _ rfl
            rw [if_pos (by rfl)]
            simp only [acts, Act.put, List.getD_cons_zero, List.getD_cons_succ, List.setIfInBounds_toArray, List.set_cons_zero, List.set_cons_succ]
            refine wp_store_slice 26 (.tmp 46) (.tmp 44) rfl D 17 (.slice g m cap) _ (by exact f13) (by exact f11) (by kernel_rfl) ⟨_, _, _, rfl⟩ p0 h1 ?_
            refine hK.out _ _ (afterY_mk undef ?_ trivial ?_)
            · (try simp only [acts, Act.put, List.getD_cons_zero, List.getD_cons_succ, List.setIfInBounds_toArray, List.set_cons_zero, List.set_cons_succ]); (try go_simp)
            · have q := (hg.1).trans (Rest.set D 17 wx (.slice g m cap))
              have q2 := bg.set 17 (.slice g m cap)
              refine ⟨q, ?_⟩
              simpa [NumT.f] using q2
          exact StepsY.nil
        · intro y wx hF hg
          have v0 : y 0 = (.int .i64 2 : Value) := hF 0 (by decide)
          have v1 : y 1 = (.int .i64 2 : Value) := hF 1 (by decide)
          have v2 : y 2 = (.pointer (some ⟨D, 15, none⟩) : Value) := hF 2 (by decide)
          have v3 : y 3 = (.pointer (some ⟨D, 17, none⟩) : Value) := hF 3 (by decide)
          have v4 : y 4 = (.slice g q cap : Value) := hF 4 (by decide)
          have v5 : y 5 = (.int .i64 2 : Value) := hF 5 (by decide)
          have v6 : y 6 = (.pointer (some ⟨D, 15, none⟩) : Value) := hF 6 (by decide)
          have v7 : y 7 = (.pointer (some ⟨D, 17, none⟩) : Value) := hF 7 (by decide)
          have v8 : y 8 = (.slice g q cap : Value) := hF 8 (by decide)
          have v9 : y 9 = (.int .i64 q : Value) := hF 9 (by decide)
          have v10 : y 10 = (.int .i64 m : Value) := hF 10 (by decide)
          have v11 : y 11 = (.slice g m cap : Value) := hF 11 (by decide)
          have v12 : y 12 = (.pointer (some ⟨D, 15, none⟩) : Value) := hF 12 (by decide)
          have v13 : y 13 = (.pointer (some ⟨D, 17, none⟩) : Value) := hF 13 (by decide)
          clear hF
          simp only [acts, Act.put, List.getD_cons_zero, List.getD_cons_succ, List.setIfInBounds_toArray, List.set_cons_zero, List.set_cons_succ]
          rw [v0, v1, v2, v3, v4, v5, v6, v7, v8, v9, v10, v11, v12, v13]
          clear v0 v1 v2 v3 v4 v5 v6 v7 v8 v9 v10 v11 v12 v13
          have hR := hg.1
          have hV : Blk wx D 29 (NumT.f ⟨dyr, dmo, dba, dfe, dre, dta, dad, dcu, dt0, dt1, dt2, dt3, dt4⟩ l3 n3 a b (.slice g m cap)) := hg.2
          clear hg
          have hB2 := hR.below hB hDw hB.size
          replace bK := bK.rest hR hDK
          have h2' := h2.take m ma
          clear e1a e1b e1c i1 i2 hR hB h2 bD
          go_wp2_with fail
          go_roundw
          case rel => exact ⟨3, _, _, _, _, _, _, by omega, by omega, by go_num, h0, h1, h2', hV, bK, hB2⟩
          case measure => simp [intOf]
      · go_wp2_with fail
        go_meet
        case rel => exact ⟨l3, n3, a, b, c, ⟨⟨dyr, dmo, dba, dfe, dre, dta, dad, dcu, dt0, dt1, dt2, dt3, dt4⟩, d.ls.take m1, d.ns.take m2, x, y, z⟩, bD, ⟨HA.out.below hB, HB.out.below hB, h0.below hB, h1.below hB, h2.below hB⟩, bK, hB⟩
  case rest =>
  clear H bD bK hW hDW
  obtain ⟨l, n, a, b, c, d', bD, dI, bK, hW⟩ := hcut
  obtain ⟨ms, msa, ms20, e1a, e1b, e1c⟩ := few ns 20
  replace e1a : min (ns : Int) ((20 : Int)) = (ms : Int) := e1a
  replace e1b : (if (20 : Int) < (ns : Int) then (20 : Int) else (ns : Int)) = (ms : Int) := e1b
  replace e1c : (if (ns : Int) < (20 : Int) then (ns : Int) else (20 : Int)) = (ms : Int) := e1c
  have L1 := HS.out.len
  unfold maxLen at L1
  have i1 : (0 : Int) ≤ (ms : Int) := by omega
  have i2 : (ms : Int) ≤ (sc : Int) := by omega
  have hsc : ms ≤ sc := by omega
  clear L1
  obtain ⟨WA, hWA⟩ : ∃ Y, Y = wc := ⟨_, rfl⟩
  subst hWA
  have LS : Hid (Lies 2 StT.f WA (.slice sa ms sc) (zs.take ms)) := (HS.out.take ms msa).below hW
  have HML : Hid ((zs.take ms).length = ms) := by show _ = _; rw [List.length_take, HNS.out]; omega
  have DIA : Hid (DealIn WA l n a b c d') := dI
  clear dI HS HNS
  go_upto_region 10 with fail
  clear e1a e1b e1c i1 i2
  obtain ⟨i0, hi, hz0, hz1, hz2⟩ := info_parts Try.info_st
  go_upto_region 11 with (first
    | (refine wpList_load_row rfl 43 (.tmp 5) rfl K rfl 43 #[.int .i64 kyr, .int .i64 kmo, .int .i64 kba, .int .i64 kfe, .int .i64 kre, .int .i64 kta, .int .i64 kad, .int .i64 kcu, .int .i64 kt0, .int .i64 kt1, .int .i64 kt2, .int .i64 kt3, .int .i64 kt4, vl, vn, vr, vt, va, vb, vc] (0, 0) _ bK Try.underlying43 rfl SK ?_)
    | (with_reducible refine P1.out _ _ hW (fun l2 n2 a2 b2 c2 d2 w1 ok O2 dd => ?_))
    | (refine wpl_box_deal (.tmp 10) (.tmp 54) rfl rfl d2.t l2 n2 a2 b2 c2 _ rfl rfl rfl (own_one O2.ls) (own_one O2.ns) (own_one O2.s0) (own_one O2.s1) (own_one O2.s2) (fun X bE dX => ?_)))
  obtain ⟨E, eE⟩ : ∃ E, w1.heap.size = E := ⟨_, rfl⟩
  rw [eE] at bE ⊢
  have hEA : WA.heap.size ≤ E := by have := dd.size; omega
  have OX := O2.then dX
  have hX := below_then dd dX
  obtain ⟨x1, x2, x3, rfl⟩ := own_slice O2.s1
  have SR : Hid (∀ wx, Below X.heap.size X wx → Src wx (.slice sa ms sc) ms ((zs.take ms).flatMap StT.f)) := fun wx b => by
    have := (LS.out.below (below_then hX b)).src StT.len (by omega)
    rw [HML.out] at this
    exact this
  have FL : Hid (((zs.take ms).flatMap StT.f).length = ms * 2) := by show _ = _; rw [flat_length StT.len, HML.out]
  clear O2 dX dd P1 SK eE bK
  go_upto_region 12 with (refine wpl_append (.tmp 55) (.tmp 56) 26 rfl (fun wx => ∃ F, X.heap.size = F ∧ wx.ownsRow F 37 2 (.slice (some ⟨F, 0, none⟩) 0 0) 0 [] ∧ Below X.heap.size X wx) ⟨_, rfl, own_empty (Blk.fresh _ _ []), below_alloc (Below.refl _ _) _⟩ ?_
                          rintro w6 ⟨F, eF, oF, dF⟩
                          rw [eF]
                          refine wpList_append_src rfl (.tmp 55) (.tmp 56) 26 rfl F 37 i0 (.agg #[.int .i64 0, .int .i64 0]) 2 16 Try.underlying26 hi hz0 hz1 hz2 rfl (by decide) (.slice (some ⟨F, 0, none⟩) 0 0) 0 [] rfl oF (.slice sa ms sc) ms ((zs.take ms).flatMap StT.f) rfl (SR.out _ dF) FL.out (flat_one StT.one) (by unfold maxLen; omega) (by omega) (by have := dF.size; omega) ?_
                          intro v7 w7 ow gr _
                          have B7 := below_grown dF gr (fun k h => by have := (oF.lt k h).1; omega)
                          have bE7 := bE.then B7
                          have u16 := bE7.cell 16 _ rfl
                          have g16 := bE7.frozen 16
                          obtain ⟨pa, pb, pc, rfl⟩ := own_slice ow
                          clear oF dF gr)
  have hq := put_s1 (OX.then B7) bE7 (own_cast ow (Nat.zero_add _) (List.nil_append _)) HML.out
  have hBZ := (below_then hX B7).setCell (p := ⟨E, 16, none⟩) (show WA.heap.size ≤ E from hEA) (.slice pa pb pc)
  clear u16 g16 ow B7 bE7 bE OX hX SR FL i0 hi hz0 hz1 hz2
  refine wp_letter (fun wx => (Blk wx E 29 (d2.t.f l2 n2 a2 (.slice pa pb pc) c2) ∧ DealIn wx l2 n2 a2 (.slice pa pb pc) c2 { d2 with s1 := zs.take ms }) ∧ Below WA.heap.size WA wx) ⟨hq, hBZ⟩ ?_
  clear hq hBZ
  rintro Z ⟨⟨bE, eI⟩, hZ⟩
  have dI := DIA.out.below hZ
  have lS := LS.out.below hZ
  replace bD := bD.then hZ
  have hend := below_then hW hZ
  have eok := DealT.ok_one ok (zs.take ms)
  obtain ⟨BB, hBB⟩ : ∃ B, stepsP (zs.take ms) = B := ⟨_, rfl⟩
  obtain ⟨AA, hAA⟩ : ∃ A, d'.ok = A := ⟨_, rfl⟩
  rw [hBB] at eok
  have y1 : ∀ wx, Below Z.heap.size Z wx → Calls Try.prog 8 #[d'.t.v l n a b c] wx fun e w' => e = .returned (.bool AA) ∧ Below wx.heap.size wx w' := fun wx k => by rw [← hAA]; exact dright_any _ _ _ _ _ d' wx (dI.below k)
  have y2 : ∀ wx, Below Z.heap.size Z wx → Calls Try.prog 13 #[d'.t.v l n a b c] wx fun e w' => e = .returned (.bool AA) ∧ Below wx.heap.size wx w' := fun wx k => by rw [← hAA, ← d'.ref_ok]; exact rref_any _ _ _ _ _ d' wx (dI.below k)
  have y3 : ∀ wx, Below Z.heap.size Z wx → Calls Try.prog 8 #[d2.t.v l2 n2 a2 (.slice pa pb pc) c2] wx fun e w' => e = .returned (.bool BB) ∧ Below wx.heap.size wx w' := fun wx k => by rw [← eok]; exact dright_any _ _ _ _ _ _ wx (eI.below k)
  have y4 : ∀ wx, Below Z.heap.size Z wx → Calls Try.prog 13 #[d2.t.v l2 n2 a2 (.slice pa pb pc) c2] wx fun e w' => e = .returned (.bool BB) ∧ Below wx.heap.size wx w' := fun wx k => by rw [← eok, ← DealT.ref_ok]; exact rref_any _ _ _ _ _ _ wx (eI.below k)
  obtain ⟨t1, ht1⟩ : ∃ t, d'.t = t := ⟨_, rfl⟩
  obtain ⟨t2, ht2⟩ : ∃ t, d2.t = t := ⟨_, rfl⟩
  rw [ht1] at y1 y2 bD
  rw [ht2] at y3 y4 bE
  clear ht1 ht2 hAA eok
  obtain ⟨pyr, pmo, pba, pfe, pre, pta, pad, pcu, pt0, pt1, pt2, pt3, pt4⟩ := t1
  obtain ⟨eyr, emo, eba, efe, ere, eta, ead, ecu, et0, et1, et2, et3, et4⟩ := t2
  have uD := bD
  have uE := bE
  clear bD bE
  unfold NumT.v at y1 y2 y3 y4
  simp only at y1 y2 y3 y4
  have Q1 : Hid (∀ (wx : World) (R : Ending → World → Prop), Below Z.heap.size Z wx → (∀ w', Below wx.heap.size wx w' → R (.returned (.bool AA)) w') → Calls Try.prog 8 #[.agg #[.int .i64 pyr, .int .i64 pmo, .int .i64 pba, l, n, .int .i64 pfe, .int .i64 pre, .int .i64 pta, .int .i64 pad, .int .i64 pcu, .int .i64 pt0, .int .i64 pt1, .int .i64 pt2, .int .i64 pt3, .int .i64 pt4, a, b, c]] wx R) := fun wx R k h => (y1 wx k).mono (by rintro e w' ⟨rfl, d⟩; exact h w' d)
  have Q2 : Hid (∀ (wx : World) (R : Ending → World → Prop), Below Z.heap.size Z wx → (∀ w', Below wx.heap.size wx w' → R (.returned (.bool AA)) w') → Calls Try.prog 13 #[.agg #[.int .i64 pyr, .int .i64 pmo, .int .i64 pba, l, n, .int .i64 pfe, .int .i64 pre, .int .i64 pta, .int .i64 pad, .int .i64 pcu, .int .i64 pt0, .int .i64 pt1, .int .i64 pt2, .int .i64 pt3, .int .i64 pt4, a, b, c]] wx R) := fun wx R k h => (y2 wx k).mono (by rintro e w' ⟨rfl, d⟩; exact h w' d)
  have Q3 : Hid (∀ (wx : World) (R : Ending → World → Prop), Below Z.heap.size Z wx → (∀ w', Below wx.heap.size wx w' → R (.returned (.bool BB)) w') → Calls Try.prog 8 #[.agg #[.int .i64 eyr, .int .i64 emo, .int .i64 eba, l2, n2, .int .i64 efe, .int .i64 ere, .int .i64 eta, .int .i64 ead, .int .i64 ecu, .int .i64 et0, .int .i64 et1, .int .i64 et2, .int .i64 et3, .int .i64 et4, a2, .slice pa pb pc, c2]] wx R) := fun wx R k h => (y3 wx k).mono (by rintro e w' ⟨rfl, d⟩; exact h w' d)
  have Q4 : Hid (∀ (wx : World) (R : Ending → World → Prop), Below Z.heap.size Z wx → (∀ w', Below wx.heap.size wx w' → R (.returned (.bool BB)) w') → Calls Try.prog 13 #[.agg #[.int .i64 eyr, .int .i64 emo, .int .i64 eba, l2, n2, .int .i64 efe, .int .i64 ere, .int .i64 eta, .int .i64 ead, .int .i64 ecu, .int .i64 et0, .int .i64 et1, .int .i64 et2, .int .i64 et3, .int .i64 et4, a2, .slice pa pb pc, c2]] wx R) := fun wx R k h => (y4 wx k).mono (by rintro e w' ⟨rfl, d⟩; exact h w' d)
  have Q5 : Hid (∀ (wx : World) (R : Ending → World → Prop), Below Z.heap.size Z wx → (∀ w', Below wx.heap.size wx w' → R (.returned (.bool BB)) w') → Calls Try.prog 11 #[.slice sa ms sc] wx R) := fun wx R k h => (steps_any _ _ wx (lS.below k)).mono (by rintro e w' ⟨rfl, d⟩; rw [hBB]; exact h w' d)
  have Q6 : Hid (∀ (wx : World) (R : Ending → World → Prop), Below Z.heap.size Z wx → (∀ w', Below wx.heap.size wx w' → R (.returned (.bool true)) w') → Calls Try.prog 3 #[] wx R) := fun wx R _ h => (dealRuns_any wx).mono (by rintro e w' ⟨rfl, d⟩; exact h w' d)
  clear y1 y2 y3 y4 dI eI lS LS HML DIA hZ hW ok
  refine wp_region_ps [60, 61, 62, 63, 64, 65, 66, 67, 68, 69, 70, 71, 72, 73, 74, 75, 76, 77, 78, 79, 80, 81, 8] [fun v _ => v = (.agg #[.int .i64 pyr, .int .i64 pmo, .int .i64 pba, l, n, .int .i64 pfe, .int .i64 pre, .int .i64 pta, .int .i64 pad, .int .i64 pcu, .int .i64 pt0, .int .i64 pt1, .int .i64 pt2, .int .i64 pt3, .int .i64 pt4, a, b, c] : Value), fun v _ => v = (.bool AA : Value), fun v _ => v = (.agg #[.int .i64 pyr, .int .i64 pmo, .int .i64 pba, l, n, .int .i64 pfe, .int .i64 pre, .int .i64 pta, .int .i64 pad, .int .i64 pcu, .int .i64 pt0, .int .i64 pt1, .int .i64 pt2, .int .i64 pt3, .int .i64 pt4, a, b, c] : Value), fun v _ => v = (.bool AA : Value), fun v _ => v = (.bool true : Value), fun v _ => v = (.bool true : Value), fun v _ => v = (.agg #[.int .i64 eyr, .int .i64 emo, .int .i64 eba, l2, n2, .int .i64 efe, .int .i64 ere, .int .i64 eta, .int .i64 ead, .int .i64 ecu, .int .i64 et0, .int .i64 et1, .int .i64 et2, .int .i64 et3, .int .i64 et4, a2, .slice pa pb pc, c2] : Value), fun v _ => v = (.bool BB : Value), fun v _ => v = (.agg #[.int .i64 eyr, .int .i64 emo, .int .i64 eba, l2, n2, .int .i64 efe, .int .i64 ere, .int .i64 eta, .int .i64 ead, .int .i64 ecu, .int .i64 et0, .int .i64 et1, .int .i64 et2, .int .i64 et3, .int .i64 et4, a2, .slice pa pb pc, c2] : Value), fun v _ => v = (.bool BB : Value), fun v _ => v = (.bool true : Value), fun v _ => v = (.bool true : Value), fun v _ => v = (.bool true : Value), fun v _ => v = (.slice sa ms sc : Value), fun v _ => v = (.bool BB : Value), fun v _ => v = (.agg #[.int .i64 eyr, .int .i64 emo, .int .i64 eba, l2, n2, .int .i64 efe, .int .i64 ere, .int .i64 eta, .int .i64 ead, .int .i64 ecu, .int .i64 et0, .int .i64 et1, .int .i64 et2, .int .i64 et3, .int .i64 et4, a2, .slice pa pb pc, c2] : Value), fun v _ => v = (.bool BB : Value), fun v _ => v = (.bool true : Value), fun v _ => v = (.bool true : Value), fun v _ => v = (.bool true : Value), fun v _ => v = (.bool true : Value), fun v _ => v = (.bool true : Value), fun v _ => v = (.bool true : Value)] [] [0, 1, 2, 3, 4, 5, 6, 7, 8, 9, 10, 11, 12, 13, 14, 15, 16, 17, 18, 19, 20, 21, 22] #[true, true, true, true, true, true, true, true, true, true, true, true, true, true, true, true, true, true, true, true, true, true, true] 0 (by kernel_rfl) (by kernel_rfl) (by kernel_rfl) (by kernel_rfl) ?_ ?_ ?_
  · intro p hp
    simp only [List.mem_cons, List.not_mem_nil, or_false] at hp
    rcases hp with rfl | rfl | rfl | rfl | rfl | rfl | rfl | rfl | rfl | rfl | rfl | rfl | rfl | rfl | rfl | rfl | rfl | rfl | rfl | rfl | rfl | rfl | rfl <;> exact bears_is _
  · have bD : Below Z.heap.size Z Z.drew := (Below.refl _ _).drew
    refine StepsF.cons rfl rfl (fun x wx hB hF K hK => ?_) ?_
    · have q1 : Below Z.heap.size Z wx := below_then bD hB
      simp only [acts, Act.put, List.getD_cons_zero, List.getD_cons_succ, List.setIfInBounds_toArray, List.set_cons_zero, List.set_cons_succ]
      rw [if_pos (by rfl)]
      refine wp_load_row 29 (.tmp 4) rfl D rfl 29 #[.int .i64 pyr, .int .i64 pmo, .int .i64 pba, l, n, .int .i64 pfe, .int .i64 pre, .int .i64 pta, .int .i64 pad, .int .i64 pcu, .int .i64 pt0, .int .i64 pt1, .int .i64 pt2, .int .i64 pt3, .int .i64 pt4, a, b, c] (0, 0) _ (uD.then q1) Try.underlying29 rfl Try.size_deal ?_
      refine hK.out _ _ (after_mk (.agg #[.int .i64 pyr, .int .i64 pmo, .int .i64 pba, l, n, .int .i64 pfe, .int .i64 pre, .int .i64 pta, .int .i64 pad, .int .i64 pcu, .int .i64 pt0, .int .i64 pt1, .int .i64 pt2, .int .i64 pt3, .int .i64 pt4, a, b, c] : Value) ?_ (Below.refl _ _) rfl (fun h => absurd h (by decide)))
      simp only [acts, Act.put, List.getD_cons_zero, List.getD_cons_succ, List.setIfInBounds_toArray, List.set_cons_zero, List.set_cons_succ]
      try rfl
    refine StepsF.cons rfl rfl (fun x wx hB hF K hK => ?_) ?_
    · have f0 : x 0 = (.agg #[.int .i64 pyr, .int .i64 pmo, .int .i64 pba, l, n, .int .i64 pfe, .int .i64 pre, .int .i64 pta, .int .i64 pad, .int .i64 pcu, .int .i64 pt0, .int .i64 pt1, .int .i64 pt2, .int .i64 pt3, .int .i64 pt4, a, b, c] : Value) := hF 0 (by decide) (by kernel_rfl)
      have q1 : Below Z.heap.size Z wx := below_then bD hB
      simp only [acts, Act.put, List.getD_cons_zero, List.getD_cons_succ, List.setIfInBounds_toArray, List.set_cons_zero, List.set_cons_succ]
      go_simp
      try simp only [f0]
      with_reducible refine Q1.out _ _ q1 (fun wy hb => ?_)
      refine hK.out _ _ (after_mk (.bool AA : Value) ?_ hb rfl (fun h => absurd h (by decide)))
      simp only [acts, Act.put, List.getD_cons_zero, List.getD_cons_succ, List.setIfInBounds_toArray, List.set_cons_zero, List.set_cons_succ]
      try simp only [f0]
    refine StepsF.cons rfl rfl (fun x wx hB hF K hK => ?_) ?_
    · have q1 : Below Z.heap.size Z wx := below_then bD hB
      simp only [acts, Act.put, List.getD_cons_zero, List.getD_cons_succ, List.setIfInBounds_toArray, List.set_cons_zero, List.set_cons_succ]
      rw [if_pos (by rfl)]
      refine wp_load_row 29 (.tmp 4) rfl D rfl 29 #[.int .i64 pyr, .int .i64 pmo, .int .i64 pba, l, n, .int .i64 pfe, .int .i64 pre, .int .i64 pta, .int .i64 pad, .int .i64 pcu, .int .i64 pt0, .int .i64 pt1, .int .i64 pt2, .int .i64 pt3, .int .i64 pt4, a, b, c] (0, 0) _ (uD.then q1) Try.underlying29 rfl Try.size_deal ?_
      refine hK.out _ _ (after_mk (.agg #[.int .i64 pyr, .int .i64 pmo, .int .i64 pba, l, n, .int .i64 pfe, .int .i64 pre, .int .i64 pta, .int .i64 pad, .int .i64 pcu, .int .i64 pt0, .int .i64 pt1, .int .i64 pt2, .int .i64 pt3, .int .i64 pt4, a, b, c] : Value) ?_ (Below.refl _ _) rfl (fun h => absurd h (by decide)))
      simp only [acts, Act.put, List.getD_cons_zero, List.getD_cons_succ, List.setIfInBounds_toArray, List.set_cons_zero, List.set_cons_succ]
      try rfl
    refine StepsF.cons rfl rfl (fun x wx hB hF K hK => ?_) ?_
    · have f2 : x 2 = (.agg #[.int .i64 pyr, .int .i64 pmo, .int .i64 pba, l, n, .int .i64 pfe, .int .i64 pre, .int .i64 pta, .int .i64 pad, .int .i64 pcu, .int .i64 pt0, .int .i64 pt1, .int .i64 pt2, .int .i64 pt3, .int .i64 pt4, a, b, c] : Value) := hF 2 (by decide) (by kernel_rfl)
      have q1 : Below Z.heap.size Z wx := below_then bD hB
      simp only [acts, Act.put, List.getD_cons_zero, List.getD_cons_succ, List.setIfInBounds_toArray, List.set_cons_zero, List.set_cons_succ]
      go_simp
      try simp only [f2]
      with_reducible refine Q2.out _ _ q1 (fun wy hb => ?_)
      refine hK.out _ _ (after_mk (.bool AA : Value) ?_ hb rfl (fun h => absurd h (by decide)))
      simp only [acts, Act.put, List.getD_cons_zero, List.getD_cons_succ, List.setIfInBounds_toArray, List.set_cons_zero, List.set_cons_succ]
      try simp only [f2]
    refine StepsF.cons rfl rfl (fun x wx hB hF K hK => ?_) ?_
    · have f1 : x 1 = (.bool AA : Value) := hF 1 (by decide) (by kernel_rfl)
      have f3 : x 3 = (.bool AA : Value) := hF 3 (by decide) (by kernel_rfl)
      simp only [acts, Act.put, List.getD_cons_zero, List.getD_cons_succ, List.setIfInBounds_toArray, List.set_cons_zero, List.set_cons_succ]
      go_simp
      refine hK.out _ _ (after_mk (.bool true : Value) ?_ (Below.refl _ _) rfl (fun h => absurd h (by decide)))
      simp only [acts, Act.put, List.getD_cons_zero, List.getD_cons_succ, List.setIfInBounds_toArray, List.set_cons_zero, List.set_cons_succ]
      try simp only [f1, f3]
    refine StepsF.cons rfl rfl (fun x wx hB hF K hK => ?_) ?_
    · have f4 : x 4 = (.bool true : Value) := hF 4 (by decide) (by kernel_rfl)
      simp only [acts, Act.put, List.getD_cons_zero, List.getD_cons_succ, List.setIfInBounds_toArray, List.set_cons_zero, List.set_cons_succ]
      go_simp
      refine hK.out _ _ (after_mk (.bool true : Value) ?_ (Below.refl _ _) rfl (fun h => absurd h (by decide)))
      simp only [acts, Act.put, List.getD_cons_zero, List.getD_cons_succ, List.setIfInBounds_toArray, List.set_cons_zero, List.set_cons_succ]
      try simp only [f4]
    refine StepsF.cons rfl rfl (fun x wx hB hF K hK => ?_) ?_
    · have f5 : x 5 = (.bool true : Value) := hF 5 (by decide) (by kernel_rfl)
      have q1 : Below Z.heap.size Z wx := below_then bD hB
      simp only [acts, Act.put, List.getD_cons_zero, List.getD_cons_succ, List.setIfInBounds_toArray, List.set_cons_zero, List.set_cons_succ]
      try simp only [f5]
      rw [if_pos (by rfl)]
      refine wp_load_row 29 (.tmp 10) rfl E rfl 29 #[.int .i64 eyr, .int .i64 emo, .int .i64 eba, l2, n2, .int .i64 efe, .int .i64 ere, .int .i64 eta, .int .i64 ead, .int .i64 ecu, .int .i64 et0, .int .i64 et1, .int .i64 et2, .int .i64 et3, .int .i64 et4, a2, .slice pa pb pc, c2] (0, 0) _ (uE.then q1) Try.underlying29 rfl Try.size_deal ?_
      refine hK.out _ _ (after_mk (.agg #[.int .i64 eyr, .int .i64 emo, .int .i64 eba, l2, n2, .int .i64 efe, .int .i64 ere, .int .i64 eta, .int .i64 ead, .int .i64 ecu, .int .i64 et0, .int .i64 et1, .int .i64 et2, .int .i64 et3, .int .i64 et4, a2, .slice pa pb pc, c2] : Value) ?_ (Below.refl _ _) rfl (fun h => absurd h (by decide)))
      simp only [acts, Act.put, List.getD_cons_zero, List.getD_cons_succ, List.setIfInBounds_toArray, List.set_cons_zero, List.set_cons_succ]
      try simp only [f5]
      try rfl
    refine StepsF.cons rfl rfl (fun x wx hB hF K hK => ?_) ?_
    · have f6 : x 6 = (.agg #[.int .i64 eyr, .int .i64 emo, .int .i64 eba, l2, n2, .int .i64 efe, .int .i64 ere, .int .i64 eta, .int .i64 ead, .int .i64 ecu, .int .i64 et0, .int .i64 et1, .int .i64 et2, .int .i64 et3, .int .i64 et4, a2, .slice pa pb pc, c2] : Value) := hF 6 (by decide) (by kernel_rfl)
      have f5 : x 5 = (.bool true : Value) := hF 5 (by decide) (by kernel_rfl)
      have q1 : Below Z.heap.size Z wx := below_then bD hB
      simp only [acts, Act.put, List.getD_cons_zero, List.getD_cons_succ, List.setIfInBounds_toArray, List.set_cons_zero, List.set_cons_succ]
      go_simp
      try simp only [f6, f5]
      with_reducible refine Q3.out _ _ q1 (fun wy hb => ?_)
      refine hK.out _ _ (after_mk (.bool BB : Value) ?_ hb rfl (fun h => absurd h (by decide)))
      simp only [acts, Act.put, List.getD_cons_zero, List.getD_cons_succ, List.setIfInBounds_toArray, List.set_cons_zero, List.set_cons_succ]
      try simp only [f6, f5]
    refine StepsF.cons rfl rfl (fun x wx hB hF K hK => ?_) ?_
    · have f5 : x 5 = (.bool true : Value) := hF 5 (by decide) (by kernel_rfl)
      have q1 : Below Z.heap.size Z wx := below_then bD hB
      simp only [acts, Act.put, List.getD_cons_zero, List.getD_cons_succ, List.setIfInBounds_toArray, List.set_cons_zero, List.set_cons_succ]
      try simp only [f5]
      rw [if_pos (by rfl)]
      refine wp_load_row 29 (.tmp 10) rfl E rfl 29 #[.int .i64 eyr, .int .i64 emo, .int .i64 eba, l2, n2, .int .i64 efe, .int .i64 ere, .int .i64 eta, .int .i64 ead, .int .i64 ecu, .int .i64 et0, .int .i64 et1, .int .i64 et2, .int .i64 et3, .int .i64 et4, a2, .slice pa pb pc, c2] (0, 0) _ (uE.then q1) Try.underlying29 rfl Try.size_deal ?_
      refine hK.out _ _ (after_mk (.agg #[.int .i64 eyr, .int .i64 emo, .int .i64 eba, l2, n2, .int .i64 efe, .int .i64 ere, .int .i64 eta, .int .i64 ead, .int .i64 ecu, .int .i64 et0, .int .i64 et1, .int .i64 et2, .int .i64 et3, .int .i64 et4, a2, .slice pa pb pc, c2] : Value) ?_ (Below.refl _ _) rfl (fun h => absurd h (by decide)))
      simp only [acts, Act.put, List.getD_cons_zero, List.getD_cons_succ, List.setIfInBounds_toArray, List.set_cons_zero, List.set_cons_succ]
      try simp only [f5]
      try rfl
    refine StepsF.cons rfl rfl (fun x wx hB hF K hK => ?_) ?_
    · have f8 : x 8 = (.agg #[.int .i64 eyr, .int .i64 emo, .int .i64 eba, l2, n2, .int .i64 efe, .int .i64 ere, .int .i64 eta, .int .i64 ead, .int .i64 ecu, .int .i64 et0, .int .i64 et1, .int .i64 et2, .int .i64 et3, .int .i64 et4, a2, .slice pa pb pc, c2] : Value) := hF 8 (by decide) (by kernel_rfl)
      have f5 : x 5 = (.bool true : Value) := hF 5 (by decide) (by kernel_rfl)
      have q1 : Below Z.heap.size Z wx := below_then bD hB
      simp only [acts, Act.put, List.getD_cons_zero, List.getD_cons_succ, List.setIfInBounds_toArray, List.set_cons_zero, List.set_cons_succ]
      go_simp
      try simp only [f8, f5]
      with_reducible refine Q4.out _ _ q1 (fun wy hb => ?_)
      refine hK.out _ _ (after_mk (.bool BB : Value) ?_ hb rfl (fun h => absurd h (by decide)))
      simp only [acts, Act.put, List.getD_cons_zero, List.getD_cons_succ, List.setIfInBounds_toArray, List.set_cons_zero, List.set_cons_succ]
      try simp only [f8, f5]
    refine StepsF.cons rfl rfl (fun x wx hB hF K hK => ?_) ?_
    · have f7 : x 7 = (.bool BB : Value) := hF 7 (by decide) (by kernel_rfl)
      have f9 : x 9 = (.bool BB : Value) := hF 9 (by decide) (by kernel_rfl)
      have f5 : x 5 = (.bool true : Value) := hF 5 (by decide) (by kernel_rfl)
      simp only [acts, Act.put, List.getD_cons_zero, List.getD_cons_succ, List.setIfInBounds_toArray, List.set_cons_zero, List.set_cons_succ]
      go_simp
      refine hK.out _ _ (after_mk (.bool true : Value) ?_ (Below.refl _ _) rfl (fun h => absurd h (by decide)))
      simp only [acts, Act.put, List.getD_cons_zero, List.getD_cons_succ, List.setIfInBounds_toArray, List.set_cons_zero, List.set_cons_succ]
      try simp only [f7, f9, f5]
    refine StepsF.cons rfl rfl (fun x wx hB hF K hK => ?_) ?_
    · have f5 : x 5 = (.bool true : Value) := hF 5 (by decide) (by kernel_rfl)
      have f10 : x 10 = (.bool true : Value) := hF 10 (by decide) (by kernel_rfl)
      simp only [acts, Act.put, List.getD_cons_zero, List.getD_cons_succ, List.setIfInBounds_toArray, List.set_cons_zero, List.set_cons_succ]
      go_simp
      refine hK.out _ _ (after_mk (.bool true : Value) ?_ (Below.refl _ _) rfl (fun h => absurd h (by decide)))
      simp only [acts, Act.put, List.getD_cons_zero, List.getD_cons_succ, List.setIfInBounds_toArray, List.set_cons_zero, List.set_cons_succ]
      try simp only [f5, f10]
    refine StepsF.cons rfl rfl (fun x wx hB hF K hK => ?_) ?_
    · have f11 : x 11 = (.bool true : Value) := hF 11 (by decide) (by kernel_rfl)
      simp only [acts, Act.put, List.getD_cons_zero, List.getD_cons_succ, List.setIfInBounds_toArray, List.set_cons_zero, List.set_cons_succ]
      go_simp
      refine hK.out _ _ (after_mk (.bool true : Value) ?_ (Below.refl _ _) rfl (fun h => absurd h (by decide)))
      simp only [acts, Act.put, List.getD_cons_zero, List.getD_cons_succ, List.setIfInBounds_toArray, List.set_cons_zero, List.set_cons_succ]
      try simp only [f11]
    refine StepsF.cons rfl rfl (fun x wx hB hF K hK => ?_) ?_
    · have f12 : x 12 = (.bool true : Value) := hF 12 (by decide) (by kernel_rfl)
      simp only [acts, Act.put, List.getD_cons_zero, List.getD_cons_succ, List.setIfInBounds_toArray, List.set_cons_zero, List.set_cons_succ]
      go_simp
      refine hK.out _ _ (after_mk (.slice sa ms sc : Value) ?_ (Below.refl _ _) rfl (fun h => absurd h (by decide)))
      simp only [acts, Act.put, List.getD_cons_zero, List.getD_cons_succ, List.setIfInBounds_toArray, List.set_cons_zero, List.set_cons_succ]
      try simp only [f12]
    refine StepsF.cons rfl rfl (fun x wx hB hF K hK => ?_) ?_
    · have f13 : x 13 = (.slice sa ms sc : Value) := hF 13 (by decide) (by kernel_rfl)
      have f12 : x 12 = (.bool true : Value) := hF 12 (by decide) (by kernel_rfl)
      have q1 : Below Z.heap.size Z wx := below_then bD hB
      simp only [acts, Act.put, List.getD_cons_zero, List.getD_cons_succ, List.setIfInBounds_toArray, List.set_cons_zero, List.set_cons_succ]
      go_simp
      try simp only [f13, f12]
      with_reducible refine Q5.out _ _ q1 (fun wy hb => ?_)
      refine hK.out _ _ (after_mk (.bool BB : Value) ?_ hb rfl (fun h => absurd h (by decide)))
      simp only [acts, Act.put, List.getD_cons_zero, List.getD_cons_succ, List.setIfInBounds_toArray, List.set_cons_zero, List.set_cons_succ]
      try simp only [f13, f12]
    refine StepsF.cons rfl rfl (fun x wx hB hF K hK => ?_) ?_
    · have f12 : x 12 = (.bool true : Value) := hF 12 (by decide) (by kernel_rfl)
      have q1 : Below Z.heap.size Z wx := below_then bD hB
      simp only [acts, Act.put, List.getD_cons_zero, List.getD_cons_succ, List.setIfInBounds_toArray, List.set_cons_zero, List.set_cons_succ]
      try simp only [f12]
      rw [if_pos (by rfl)]
      refine wp_load_row 29 (.tmp 10) rfl E rfl 29 #[.int .i64 eyr, .int .i64 emo, .int .i64 eba, l2, n2, .int .i64 efe, .int .i64 ere, .int .i64 eta, .int .i64 ead, .int .i64 ecu, .int .i64 et0, .int .i64 et1, .int .i64 et2, .int .i64 et3, .int .i64 et4, a2, .slice pa pb pc, c2] (0, 0) _ (uE.then q1) Try.underlying29 rfl Try.size_deal ?_
      refine hK.out _ _ (after_mk (.agg #[.int .i64 eyr, .int .i64 emo, .int .i64 eba, l2, n2, .int .i64 efe, .int .i64 ere, .int .i64 eta, .int .i64 ead, .int .i64 ecu, .int .i64 et0, .int .i64 et1, .int .i64 et2, .int .i64 et3, .int .i64 et4, a2, .slice pa pb pc, c2] : Value) ?_ (Below.refl _ _) rfl (fun h => absurd h (by decide)))
      simp only [acts, Act.put, List.getD_cons_zero, List.getD_cons_succ, List.setIfInBounds_toArray, List.set_cons_zero, List.set_cons_succ]
      try simp only [f12]
      try rfl
    refine StepsF.cons rfl rfl (fun x wx hB hF K hK => ?_) ?_
    · have f15 : x 15 = (.agg #[.int .i64 eyr, .int .i64 emo, .int .i64 eba, l2, n2, .int .i64 efe, .int .i64 ere, .int .i64 eta, .int .i64 ead, .int .i64 ecu, .int .i64 et0, .int .i64 et1, .int .i64 et2, .int .i64 et3, .int .i64 et4, a2, .slice pa pb pc, c2] : Value) := hF 15 (by decide) (by kernel_rfl)
      have f12 : x 12 = (.bool true : Value) := hF 12 (by decide) (by kernel_rfl)
      have q1 : Below Z.heap.size Z wx := below_then bD hB
      simp only [acts, Act.put, List.getD_cons_zero, List.getD_cons_succ, List.setIfInBounds_toArray, List.set_cons_zero, List.set_cons_succ]
      go_simp
      try simp only [f15, f12]
      with_reducible refine Q4.out _ _ q1 (fun wy hb => ?_)
      refine hK.out _ _ (after_mk (.bool BB : Value) ?_ hb rfl (fun h => absurd h (by decide)))
      simp only [acts, Act.put, List.getD_cons_zero, List.getD_cons_succ, List.setIfInBounds_toArray, List.set_cons_zero, List.set_cons_succ]
      try simp only [f15, f12]
    refine StepsF.cons rfl rfl (fun x wx hB hF K hK => ?_) ?_
    · have f14 : x 14 = (.bool BB : Value) := hF 14 (by decide) (by kernel_rfl)
      have f16 : x 16 = (.bool BB : Value) := hF 16 (by decide) (by kernel_rfl)
      have f12 : x 12 = (.bool true : Value) := hF 12 (by decide) (by kernel_rfl)
      simp only [acts, Act.put, List.getD_cons_zero, List.getD_cons_succ, List.setIfInBounds_toArray, List.set_cons_zero, List.set_cons_succ]
      go_simp
      refine hK.out _ _ (after_mk (.bool true : Value) ?_ (Below.refl _ _) rfl (fun h => absurd h (by decide)))
      simp only [acts, Act.put, List.getD_cons_zero, List.getD_cons_succ, List.setIfInBounds_toArray, List.set_cons_zero, List.set_cons_succ]
      try simp only [f14, f16, f12]
    refine StepsF.cons rfl rfl (fun x wx hB hF K hK => ?_) ?_
    · have f12 : x 12 = (.bool true : Value) := hF 12 (by decide) (by kernel_rfl)
      have f17 : x 17 = (.bool true : Value) := hF 17 (by decide) (by kernel_rfl)
      simp only [acts, Act.put, List.getD_cons_zero, List.getD_cons_succ, List.setIfInBounds_toArray, List.set_cons_zero, List.set_cons_succ]
      go_simp
      refine hK.out _ _ (after_mk (.bool true : Value) ?_ (Below.refl _ _) rfl (fun h => absurd h (by decide)))
      simp only [acts, Act.put, List.getD_cons_zero, List.getD_cons_succ, List.setIfInBounds_toArray, List.set_cons_zero, List.set_cons_succ]
      try simp only [f12, f17]
    refine StepsF.cons rfl rfl (fun x wx hB hF K hK => ?_) ?_
    · have f18 : x 18 = (.bool true : Value) := hF 18 (by decide) (by kernel_rfl)
      simp only [acts, Act.put, List.getD_cons_zero, List.getD_cons_succ, List.setIfInBounds_toArray, List.set_cons_zero, List.set_cons_succ]
      go_simp
      refine hK.out _ _ (after_mk (.bool true : Value) ?_ (Below.refl _ _) rfl (fun h => absurd h (by decide)))
      simp only [acts, Act.put, List.getD_cons_zero, List.getD_cons_succ, List.setIfInBounds_toArray, List.set_cons_zero, List.set_cons_succ]
      try simp only [f18]
    refine StepsF.cons rfl rfl (fun x wx hB hF K hK => ?_) ?_
    · have f19 : x 19 = (.bool true : Value) := hF 19 (by decide) (by kernel_rfl)
      have q1 : Below Z.heap.size Z wx := below_then bD hB
      simp only [acts, Act.put, List.getD_cons_zero, List.getD_cons_succ, List.setIfInBounds_toArray, List.set_cons_zero, List.set_cons_succ]
      go_simp
      try simp only [f19]
      with_reducible refine Q6.out _ _ q1 (fun wy hb => ?_)
      refine hK.out _ _ (after_mk (.bool true : Value) ?_ hb rfl (fun h => absurd h (by decide)))
      simp only [acts, Act.put, List.getD_cons_zero, List.getD_cons_succ, List.setIfInBounds_toArray, List.set_cons_zero, List.set_cons_succ]
      try simp only [f19]
    refine StepsF.cons rfl rfl (fun x wx hB hF K hK => ?_) ?_
    · have f19 : x 19 = (.bool true : Value) := hF 19 (by decide) (by kernel_rfl)
      have f20 : x 20 = (.bool true : Value) := hF 20 (by decide) (by kernel_rfl)
      simp only [acts, Act.put, List.getD_cons_zero, List.getD_cons_succ, List.setIfInBounds_toArray, List.set_cons_zero, List.set_cons_succ]
      go_simp
      refine hK.out _ _ (after_mk (.bool true : Value) ?_ (Below.refl _ _) rfl (fun h => absurd h (by decide)))
      simp only [acts, Act.put, List.getD_cons_zero, List.getD_cons_succ, List.setIfInBounds_toArray, List.set_cons_zero, List.set_cons_succ]
      try simp only [f19, f20]
    refine StepsF.cons rfl rfl (fun x wx hB hF K hK => ?_) ?_
    · have f21 : x 21 = (.bool true : Value) := hF 21 (by decide) (by kernel_rfl)
      simp only [acts, Act.put, List.getD_cons_zero, List.getD_cons_succ, List.setIfInBounds_toArray, List.set_cons_zero, List.set_cons_succ]
      go_simp
      refine hK.out _ _ (after_mk (.bool true : Value) ?_ (Below.refl _ _) rfl (fun h => absurd h (by decide)))
      simp only [acts, Act.put, List.getD_cons_zero, List.getD_cons_succ, List.setIfInBounds_toArray, List.set_cons_zero, List.set_cons_succ]
      try simp only [f21]
    exact StepsF.nil
  · intro x wx hB hF hne fuel
    have q1 : Below Z.heap.size Z wx := below_then (Below.refl _ _).drew hB
    have v0 : x 0 = (.agg #[.int .i64 pyr, .int .i64 pmo, .int .i64 pba, l, n, .int .i64 pfe, .int .i64 pre, .int .i64 pta, .int .i64 pad, .int .i64 pcu, .int .i64 pt0, .int .i64 pt1, .int .i64 pt2, .int .i64 pt3, .int .i64 pt4, a, b, c] : Value) := hF 0 (by decide)
    have v1 : x 1 = (.bool AA : Value) := hF 1 (by decide)
    have v2 : x 2 = (.agg #[.int .i64 pyr, .int .i64 pmo, .int .i64 pba, l, n, .int .i64 pfe, .int .i64 pre, .int .i64 pta, .int .i64 pad, .int .i64 pcu, .int .i64 pt0, .int .i64 pt1, .int .i64 pt2, .int .i64 pt3, .int .i64 pt4, a, b, c] : Value) := hF 2 (by decide)
    have v3 : x 3 = (.bool AA : Value) := hF 3 (by decide)
    have v4 : x 4 = (.bool true : Value) := hF 4 (by decide)
    have v5 : x 5 = (.bool true : Value) := hF 5 (by decide)
    have v6 : x 6 = (.agg #[.int .i64 eyr, .int .i64 emo, .int .i64 eba, l2, n2, .int .i64 efe, .int .i64 ere, .int .i64 eta, .int .i64 ead, .int .i64 ecu, .int .i64 et0, .int .i64 et1, .int .i64 et2, .int .i64 et3, .int .i64 et4, a2, .slice pa pb pc, c2] : Value) := hF 6 (by decide)
    have v7 : x 7 = (.bool BB : Value) := hF 7 (by decide)
    have v8 : x 8 = (.agg #[.int .i64 eyr, .int .i64 emo, .int .i64 eba, l2, n2, .int .i64 efe, .int .i64 ere, .int .i64 eta, .int .i64 ead, .int .i64 ecu, .int .i64 et0, .int .i64 et1, .int .i64 et2, .int .i64 et3, .int .i64 et4, a2, .slice pa pb pc, c2] : Value) := hF 8 (by decide)
    have v9 : x 9 = (.bool BB : Value) := hF 9 (by decide)
    have v10 : x 10 = (.bool true : Value) := hF 10 (by decide)
    have v11 : x 11 = (.bool true : Value) := hF 11 (by decide)
    have v12 : x 12 = (.bool true : Value) := hF 12 (by decide)
    have v13 : x 13 = (.slice sa ms sc : Value) := hF 13 (by decide)
    have v14 : x 14 = (.bool BB : Value) := hF 14 (by decide)
    have v15 : x 15 = (.agg #[.int .i64 eyr, .int .i64 emo, .int .i64 eba, l2, n2, .int .i64 efe, .int .i64 ere, .int .i64 eta, .int .i64 ead, .int .i64 ecu, .int .i64 et0, .int .i64 et1, .int .i64 et2, .int .i64 et3, .int .i64 et4, a2, .slice pa pb pc, c2] : Value) := hF 15 (by decide)
    have v16 : x 16 = (.bool BB : Value) := hF 16 (by decide)
    have v17 : x 17 = (.bool true : Value) := hF 17 (by decide)
    have v18 : x 18 = (.bool true : Value) := hF 18 (by decide)
    have v19 : x 19 = (.bool true : Value) := hF 19 (by decide)
    have v20 : x 20 = (.bool true : Value) := hF 20 (by decide)
    have v21 : x 21 = (.bool true : Value) := hF 21 (by decide)
    have v22 : x 22 = (.bool true : Value) := hF 22 (by decide)
    clear hB hF hne
    simp only [acts, Act.put, List.getD_cons_zero, List.getD_cons_succ, List.setIfInBounds_toArray, List.set_cons_zero, List.set_cons_succ]
    rw [v0, v1, v2, v3, v4, v5, v6, v7, v8, v9, v10, v11, v12, v13, v14, v15, v16, v17, v18, v19, v20, v21, v22]
    clear v0 v1 v2 v3 v4 v5 v6 v7 v8 v9 v10 v11 v12 v13 v14 v15 v16 v17 v18 v19 v20 v21 v22
    refine wpAny_done (by kernel_rfl) ?_ _
    go_wp2
    go_ret
    exact ⟨rfl, below_then hend q1⟩
/-- The law, of any arguments. -/
theorem dealTells_law (v0 v1 v2 v3 : Value) (w : World) (w0 : Arg w (.struct (.cons 1 (.int .i64) (.cons 1 (.int .i64) (.cons 1 (.int .i64) (.cons 1 (.slice 2 (.struct (.cons 1 (.int .i64) (.cons 1 (.int .i64) .nil)))) (.cons 1 (.slice 3 (.struct (.cons 1 (.int .i64) (.cons 1 (.int .i64) (.cons 1 (.int .i64) .nil))))) (.cons 1 (.int .i64) (.cons 1 (.int .i64) (.cons 1 (.int .i64) (.cons 1 (.int .i64) (.cons 1 (.int .i64) (.cons 5 (.struct (.cons 1 (.int .i64) (.cons 1 (.int .i64) (.cons 1 (.int .i64) (.cons 1 (.int .i64) (.cons 1 (.int .i64) .nil)))))) (.cons 3 (.arr (.cons 1 (.slice 2 (.struct (.cons 1 (.int .i64) (.cons 1 (.int .i64) .nil)))) (.cons 1 (.slice 2 (.struct (.cons 1 (.int .i64) (.cons 1 (.int .i64) .nil)))) (.cons 1 (.slice 2 (.struct (.cons 1 (.int .i64) (.cons 1 (.int .i64) .nil)))) .nil)))) .nil))))))))))))) v0) (w1 : Arg w (.struct (.cons 1 (.int .i64) (.cons 1 (.int .i64) (.cons 1 (.int .i64) (.cons 1 (.int .i64) (.cons 1 (.int .i64) (.cons 1 (.int .i64) (.cons 1 (.int .i64) (.cons 1 (.int .i64) (.cons 5 (.arr (.cons 1 (.int .i64) (.cons 1 (.int .i64) (.cons 1 (.int .i64) (.cons 1 (.int .i64) (.cons 1 (.int .i64) .nil)))))) (.cons 1 (.slice 1 (.int .i64)) (.cons 1 (.slice 1 (.int .i64)) (.cons 1 (.slice 1 (.int .i64)) (.cons 1 (.slice 1 (.int .i64)) (.cons 3 (.arr (.cons 1 (.slice 1 (.int .i64)) (.cons 1 (.slice 1 (.int .i64)) (.cons 1 (.slice 1 (.int .i64)) .nil)))) .nil))))))))))))))) v1) (w2 : Arg w .bool v2) (w3 : Arg w (.slice 2 (.struct (.cons 1 (.int .i64) (.cons 1 (.int .i64) .nil)))) v3) :
    Calls Try.prog 4 #[v0, v1, v2, v3] w fun e w' => e = .returned (.bool true) ∧ Below w.heap.size w w' := by
  obtain ⟨t, l, n, a, b, c, d, rfl, hd, rfl⟩ := arg_deal w0
  obtain ⟨own, rfl⟩ := arg_bool w2
  obtain ⟨zs, hs⟩ := arg_sts w3
  exact dealTells_any d.t l n a b c d v1 own v3 zs w hd (arg_dealk w1) hs
end Go.Proofs.Ytamdmicdieeolaa
