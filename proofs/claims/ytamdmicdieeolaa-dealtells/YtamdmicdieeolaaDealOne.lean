/-
  The walk of cascadekeep.One.
-/
import Derived.Test.YtamdmicdieeolaaDealMem
namespace Go.Proofs.Ytamdmicdieeolaa
open Go.RowKit

theorem twoS_one : ∀ u ∈ twoS, u.oneCell' = true := by
  intro u hu
  simp only [twoS, List.mem_cons, List.not_mem_nil, or_false] at hu
  rcases hu with rfl | rfl | rfl | rfl <;> rfl
set_option maxHeartbeats 4000000 in
theorem one_any (w : World) :
    Calls Try.prog 7 #[] w fun e w' => ∃ l n a b c, e = .returned ((oneD 100).t.v l n a b c) ∧ DealOwn w.heap.size w' l n a b c (oneD 100) ∧ Below w.heap.size w w' := by
  obtain ⟨i0, hi, hz0, hz1, hz2⟩ := info_parts Try.info_st
  go_enter Try.func7, Try.ntmps7
  go_upto_region 2 with fail
  refine wp_letter (fun wx => ∃ G h, w.heap.size = G ∧ G + 1 = h ∧ Blk wx G 29 zeroD ∧ Blk wx h 37 twoS ∧ Below w.heap.size w wx) ⟨_, _, rfl, rfl, (Blk.fresh _ _ zeroD).alloc _, Blk.fresh2 _ _ _ _, below_alloc (below_alloc (Below.refl _ _) _) _⟩ ?_
  rintro W ⟨G, h, eG, eh, bG, bh, hW⟩
  rw [eG, eh]
  have lh := bh.lt
  go_wp2_with (first
    | (refine wpl_append (.tmp 9) (.tmp 10) 26 rfl (fun wx => ∃ L N E, W.heap.size = L ∧ L + 1 = N ∧ N + 1 = E ∧ OneW W wx L N h ∧ Blk wx G 29 zeroD ∧ Blk wx E 37 []) ⟨_, _, _, rfl, rfl, rfl, ⟨below_alloc (below_alloc (below_alloc (Below.refl _ _) _) _) _, ((Blk.fresh _ _ (LnT.f ⟨1, 100⟩)).alloc _).alloc _, (Blk.fresh2 _ _ _ (TrT.f ⟨0, 100, 0⟩)).alloc _, ((bh.alloc _).alloc _).alloc _⟩, ((bG.alloc _).alloc _).alloc _, Blk.fresh3 _ _ _ _ []⟩ ?_
       clear bh bG
       rintro w1 ⟨L, N, E, eL, eN, eE, O, bG, bE⟩
       rw [eL, eN, eE]
       refine wpList_append_src rfl (.tmp 9) (.tmp 10) 26 rfl E 37 i0 (.agg #[.int .i64 0, .int .i64 0]) 2 16 Try.underlying26 hi hz0 hz1 hz2 rfl (by decide) (.slice (some ⟨E, 0, none⟩) 0 0) 0 [] rfl (own_empty bE) (.slice (some ⟨h, 0, none⟩) 2 2) 2 twoS rfl (blk_src O.h 2) rfl twoS_one (by unfold maxLen; omega) (by omega) (Nat.le_of_lt bE.lt) ?_; intro v w2 ow gr _; obtain ⟨pa, na, ca, rfl⟩ := own_slice ow; have kr := rest_grown (E := E) gr rfl; replace O := O.rest kr (by omega) (by omega) (by omega) (by omega); replace bG := bG.rest kr (by omega); replace ow := own_cast (n' := 2) ow rfl (List.nil_append _)
       have hE : W.heap.size ≤ E := by omega
       have oa : w2.ownsRow W.heap.size 37 2 (.slice pa na ca) 2 twoS := own_low ow hE
       clear ow gr kr bE eE hE)
    | (refine wpl_append (.tmp 12) (.tmp 13) 26 rfl (fun wx => ∃ E, w2.heap.size = E ∧ OneW W wx L N h ∧ Blk wx G 29 zeroD ∧ Blk wx E 37 [] ∧ wx.ownsRow W.heap.size 37 2 (.slice pa na ca) 2 twoS) ⟨_, rfl, O.then (below_alloc (Below.refl _ _) _), bG.alloc _, Blk.fresh _ _ [], oa.alloc _⟩ ?_
       have la := fun g e => (oa.lt g e).2
       have lG := bG.lt
       have lN := O.n.lt
       have lW := O.below.size
       clear O bG oa
       rintro w3 ⟨E, eE, O, bG, bE, oa⟩
       rw [eE]
       refine wpList_append_src rfl (.tmp 12) (.tmp 13) 26 rfl E 37 i0 (.agg #[.int .i64 0, .int .i64 0]) 2 16 Try.underlying26 hi hz0 hz1 hz2 rfl (by decide) (.slice (some ⟨E, 0, none⟩) 0 0) 0 [] rfl (own_empty bE) (.slice (some ⟨h, 0, none⟩) 2 2) 2 twoS rfl (blk_src O.h 2) rfl twoS_one (by unfold maxLen; omega) (by omega) (Nat.le_of_lt bE.lt) ?_; intro v w4 ow gr _; obtain ⟨pb, nb, cb, rfl⟩ := own_slice ow; have kr := rest_grown (E := E) gr rfl; replace O := O.rest kr (by omega) (by omega) (by omega) (by omega); replace bG := bG.rest kr (by omega); replace ow := own_cast (n' := 2) ow rfl (List.nil_append _)
       replace oa := own_rest oa kr (fun e => by have := la E e; omega)
       have hab : ∀ g, (Value.slice pa na ca).ownBlock = some g → (Value.slice pb nb cb).ownBlock ≠ some g := fun g e e' => by have := la g e; have := (ow.lt g e').1; omega
       have ob : w4.ownsRow W.heap.size 37 2 (.slice pb nb cb) 2 twoS := own_low ow (by omega)
       clear ow gr kr bE eE la lG lN lW)
    | (refine wpl_append (.tmp 15) (.tmp 16) 26 rfl (fun wx => ∃ E, w4.heap.size = E ∧ OneW W wx L N h ∧ Blk wx G 29 zeroD ∧ Blk wx E 37 [] ∧ wx.ownsRow W.heap.size 37 2 (.slice pa na ca) 2 twoS ∧ wx.ownsRow W.heap.size 37 2 (.slice pb nb cb) 2 twoS) ⟨_, rfl, O.then (below_alloc (Below.refl _ _) _), bG.alloc _, Blk.fresh _ _ [], oa.alloc _, ob.alloc _⟩ ?_
       have la := fun g e => (oa.lt g e).2
       have lb := fun g e => (ob.lt g e).2
       have lG := bG.lt
       have lN := O.n.lt
       have lW := O.below.size
       clear O bG oa ob
       rintro w5 ⟨E, eE, O, bG, bE, oa, ob⟩
       rw [eE]
       refine wpList_append_src rfl (.tmp 15) (.tmp 16) 26 rfl E 37 i0 (.agg #[.int .i64 0, .int .i64 0]) 2 16 Try.underlying26 hi hz0 hz1 hz2 rfl (by decide) (.slice (some ⟨E, 0, none⟩) 0 0) 0 [] rfl (own_empty bE) (.slice (some ⟨h, 0, none⟩) 2 2) 2 twoS rfl (blk_src O.h 2) rfl twoS_one (by unfold maxLen; omega) (by omega) (Nat.le_of_lt bE.lt) ?_; intro v w6 ow gr _; obtain ⟨pc, nc, cc, rfl⟩ := own_slice ow; have kr := rest_grown (E := E) gr rfl; replace O := O.rest kr (by omega) (by omega) (by omega) (by omega); replace bG := bG.rest kr (by omega); replace ow := own_cast (n' := 2) ow rfl (List.nil_append _)
       replace oa := own_rest oa kr (fun e => by have := la E e; omega)
       replace ob := own_rest ob kr (fun e => by have := lb E e; omega)
       have hac : ∀ g, (Value.slice pa na ca).ownBlock = some g → (Value.slice pc nc cc).ownBlock ≠ some g := fun g e e' => by have := la g e; have := (ow.lt g e').1; omega
       have hbc : ∀ g, (Value.slice pb nb cb).ownBlock = some g → (Value.slice pc nc cc).ownBlock ≠ some g := fun g e e' => by have := lb g e; have := (ow.lt g e').1; omega
       have oc : w6.ownsRow W.heap.size 37 2 (.slice pc nc cc) 2 twoS := own_low ow (by omega)
       clear ow gr kr bE eE la lb lG lN lW)
    | (refine wpList_store_mid rfl 29 (.tmp 0) (.tmp 19) rfl G 0 #[.int .i64 2024, .int .i64 1, .int .i64 0, .slice (some ⟨L, 0, none⟩) 1 1, .slice (some ⟨N, 0, none⟩) 1 1, .int .i64 0, .int .i64 0, .int .i64 0, .int .i64 0, .int .i64 0, .int .i64 0, .int .i64 0, .int .i64 0, .int .i64 0, .int .i64 0, (.slice pa na ca), (.slice pb nb cb), (.slice pc nc cc)] rfl rfl (bG.there 0 18 (by decide)) Try.size_deal (all_oneCell_toArray (cs := NumT.f (oneD 100).t (.slice (some ⟨L, 0, none⟩) 1 1) (.slice (some ⟨N, 0, none⟩) 1 1) (.slice pa na ca) (.slice pb nb cb) (.slice pc nc cc)) (NumT.one _ rfl rfl (own_one oa) (own_one ob) (own_one oc))) ?_))
  have lG : G < W.heap.size := by omega
  have D6 : DealOwn W.heap.size w6 (.slice (some ⟨L, 0, none⟩) 1 1) (.slice (some ⟨N, 0, none⟩) 1 1) (.slice pa na ca) (.slice pb nb cb) (.slice pc nc cc) (oneD 100) :=
    ⟨blk_own O.l (by omega) rfl (by unfold maxLen; decide), blk_own O.n (by omega) rfl (by unfold maxLen; decide), oa, ob, oc, hab, hac, hbc⟩
  have hB6 := below_then hW O.below
  have hs := Rest.setCells G (NumT.f (oneD 100).t (.slice (some ⟨L, 0, none⟩) 1 1) (.slice (some ⟨N, 0, none⟩) 1 1) (.slice pa na ca) (.slice pb nb cb) (.slice pc nc cc)) 0 w6
  refine post_letter (fun wx => Blk wx G 29 (NumT.f (oneD 100).t (.slice (some ⟨L, 0, none⟩) 1 1) (.slice (some ⟨N, 0, none⟩) 1 1) (.slice pa na ca) (.slice pb nb cb) (.slice pc nc cc)) ∧ DealOwn W.heap.size wx (.slice (some ⟨L, 0, none⟩) 1 1) (.slice (some ⟨N, 0, none⟩) 1 1) (.slice pa na ca) (.slice pb nb cb) (.slice pc nc cc) (oneD 100) ∧ Below w.heap.size w wx)
    ⟨bG.over rfl, D6.above hs lG, hs.below hB6 (Nat.le_of_eq eG) hB6.size⟩ ?_
  rintro X ⟨bX, dX, hX⟩
  exact ret_deal rfl rfl rfl bX rfl ⟨_, _, _, _, _, rfl, dX.low hW.size, hX⟩
end Go.Proofs.Ytamdmicdieeolaa
