/-
  The walk of cascadekeep.Deals: a deal and one that is the same.
-/
import Derived.Test.YtamdmicdieeolaaDealSame
namespace Go.Proofs.Ytamdmicdieeolaa
open Go.RowKit

set_option maxHeartbeats 4000000 in
theorem deals_any (l n a b c l' n' a' b' c' : Value) (d : DealT) (w : World) (h : DealIn w l n a b c d) (h' : DealIn w l' n' a' b' c' d) :
    Calls Try.prog 16 #[d.t.v l n a b c, d.t.v l' n' a' b' c'] w fun e w' => e = .returned (.bool true) ∧ Below w.heap.size w w' := by
  obtain ⟨t, ht⟩ : ∃ t, d.t = t := ⟨_, rfl⟩
  rw [ht]
  clear ht
  obtain ⟨yr, mo, ba, fe, re, ta, ad, cu, t0, t1, t2, t3, t4⟩ := t
  unfold NumT.v
  simp only
  have HC : Hid (∀ k, k < 3 → ∃ v v', [a, b, c][k]? = some v ∧ [a', b', c'][k]? = some v' ∧ Lies 2 StT.f w v (d.mode k) ∧ Lies 2 StT.f w v' (d.mode k)) := fun k hk => by
    rcases (show k = 0 ∨ k = 1 ∨ k = 2 by omega) with rfl | rfl | rfl
    · exact ⟨a, a', rfl, rfl, h.s0, h'.s0⟩
    · exact ⟨b, b', rfl, rfl, h.s1, h'.s1⟩
    · exact ⟨c, c', rfl, rfl, h.s2, h'.s2⟩
  go_enter Try.func16, Try.ntmps16
  go_upto_region 1 with fail
  refine wp_letter (fun wx => ∃ G H, w.heap.size = G ∧ G + 1 = H ∧ Blk wx G 29 (NumT.f ⟨yr, mo, ba, fe, re, ta, ad, cu, t0, t1, t2, t3, t4⟩ l n a b c) ∧ Blk wx H 29 (NumT.f ⟨yr, mo, ba, fe, re, ta, ad, cu, t0, t1, t2, t3, t4⟩ l' n' a' b' c') ∧ Below w.heap.size w wx) ⟨_, _, rfl, rfl, (Blk.fresh _ _ (NumT.f ⟨yr, mo, ba, fe, re, ta, ad, cu, t0, t1, t2, t3, t4⟩ l n a b c)).alloc _, Blk.fresh2 _ _ _ (NumT.f ⟨yr, mo, ba, fe, re, ta, ad, cu, t0, t1, t2, t3, t4⟩ l' n' a' b' c'), below_alloc (below_alloc (Below.refl _ _) _) _⟩ ?_
  rintro W ⟨G, H, eG, eH, bG, bH, hW⟩
  rw [eG, eH]
  clear eG eH
  go_wp2
  go_loopw [6] (fun i wr => ∃ (m : Nat), m ≤ 3 ∧ i = .int .i64 m ∧ Below W.heap.size W wr) (fun i _ => 3 - (intOf i).toNat)
  case atStart => exact ⟨0, Nat.zero_le _, rfl, Below.refl _ _⟩
  case round =>
  obtain ⟨m, hm, rfl, hB⟩ := hrel
  by_cases hlt : m < 3
  · obtain ⟨v, v', e1, e2, l1, l2⟩ := HC.out m hlt
    have g1 : (NumT.f ⟨yr, mo, ba, fe, re, ta, ad, cu, t0, t1, t2, t3, t4⟩ l n a b c)[15 + m]? = some v := by
      rcases (show m = 0 ∨ m = 1 ∨ m = 2 by omega) with rfl | rfl | rfl <;> exact e1
    have g2 : (NumT.f ⟨yr, mo, ba, fe, re, ta, ad, cu, t0, t1, t2, t3, t4⟩ l' n' a' b' c')[15 + m]? = some v' := by
      rcases (show m = 0 ∨ m = 1 ∨ m = 2 by omega) with rfl | rfl | rfl <;> exact e2
    have q1 := (bG.then hB).cell (15 + m) _ g1
    have q2 := (bH.then hB).cell (15 + m) _ g2
    have L1 : Hid (Lies 2 StT.f wr.drew v (d.mode m)) := (l1.below (below_then hW hB)).below (Below.refl _ _).drew
    have L2 : Hid (Lies 2 StT.f wr.drew v' (d.mode m)) := (l2.below (below_then hW hB)).below (Below.refl _ _).drew
    have m0 : (0 : Int) ≤ (m : Int) := by omega
    have m1 : (m : Int) < 3 := by omega
    have cA : ∀ wx, Below wr.heap.size wr wx → wx.cell? ⟨G, 15 + m, none⟩ = some v ∧ wx.cell? ⟨H, 15 + m, none⟩ = some v' := fun wx bx => ⟨cell_keep bx q1, cell_keep bx q2⟩
    clear e1 e2 l1 l2 g1 g2
    go_upto_region 4 with fail
    go_region_held3 (fun wx => wx.cell? ⟨G, 15 + m, none⟩ = some v ∧ wx.cell? ⟨H, 15 + m, none⟩ = some v') (first | (with_reducible assumption) | (exact cA _ (Below.refl _ _).drew) | (exact ⟨q1, q2⟩))
      (first | (go_at_call 34; refine (same_st _ _ (d.mode m) _ L1.out L2.out).mono ?_; rintro e w4 ⟨rfl, d4⟩; have d5 : Below wr.heap.size wr w4 := below_then (Below.refl _ _).drew d4; have SB := cA _ d5; have D5 : Hid (Below wr.heap.size wr w4) := d5; clear d4 d5))
    go_wp2
    go_roundw
    case rel => exact ⟨m + 1, by omega, by go_num, below_then hB D5.out⟩
    case measure => simp [intOf]; omega
  · obtain rfl : m = 3 := by omega
    have bG2 := bG.then hB
    have bH2 := bH.then hB
    go_upto_region 7 with fail
    have c0 := bG2.cell 0 _ rfl
    have e0 := bH2.cell 0 _ rfl
    have c1 := bG2.cell 1 _ rfl
    have e1 := bH2.cell 1 _ rfl
    have c2 := bG2.cell 2 _ rfl
    have e2 := bH2.cell 2 _ rfl
    have c3 := bG2.cell 3 _ rfl
    have e3 := bH2.cell 3 _ rfl
    have c4 := bG2.cell 4 _ rfl
    have e4 := bH2.cell 4 _ rfl
    have c5 := bG2.cell 5 _ rfl
    have e5 := bH2.cell 5 _ rfl
    have c6 := bG2.cell 6 _ rfl
    have e6 := bH2.cell 6 _ rfl
    have c7 := bG2.cell 7 _ rfl
    have e7 := bH2.cell 7 _ rfl
    have c8 := bG2.cell 8 _ rfl
    have e8 := bH2.cell 8 _ rfl
    have c9 := bG2.cell 9 _ rfl
    have e9 := bH2.cell 9 _ rfl
    have c10 := bG2.cell 10 _ rfl
    have e10 := bH2.cell 10 _ rfl
    have c11 := bG2.cell 11 _ rfl
    have e11 := bH2.cell 11 _ rfl
    have c12 := bG2.cell 12 _ rfl
    have e12 := bH2.cell 12 _ rfl
    have c13 := bG2.cell 13 _ rfl
    have e13 := bH2.cell 13 _ rfl
    have c14 := bG2.cell 14 _ rfl
    have e14 := bH2.cell 14 _ rfl
    have LL : DealIn wr l n a b c d := h.below (below_then hW hB)
    have LR : DealIn wr l' n' a' b' c' d := h'.below (below_then hW hB)
    have hE := below_then hW hB
    go_wp2_with (first
      | (go_at_call 35; refine (same_ln _ _ d.ls _ LL.ls LR.ls).mono ?_; rintro e w5 ⟨rfl, d5⟩; replace c4 := cell_keep d5 c4; replace e4 := cell_keep d5 e4; replace LL := LL.below d5; replace LR := LR.below d5; replace hE := below_then hE d5)
      | (go_at_call 36; refine (same_tr _ _ d.ns _ LL.ns LR.ns).mono ?_; rintro e w6 ⟨rfl, d6⟩; replace hE := below_then hE d6))
    go_ret
    exact ⟨rfl, hE⟩
end Go.Proofs.Ytamdmicdieeolaa
