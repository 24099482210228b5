/-
  The document's own pool (cascaderef9): the walk of Apply.
-/
import Derived.Test.YtoijgognbfifbaaRefApp
namespace Go.Proofs.Ytoijgognbfifbaa
open Go.RowKit

/-- What the search for a loan has found so far. -/
def Seek (q : List LoanP) (n : Int) (i : Nat) (c : Value) : Prop := (c = .int .i64 (-1) ∧ ∀ j o, j < i → q[j]? = some o → o.id ≠ n) ∨ ∃ j o, j < i ∧ c = .int .i64 (j : Int) ∧ q[j]? = some o ∧ o.id = n
set_option maxRecDepth 100000 in
set_option maxHeartbeats 60000000 in
theorem refApply_any (v l : Value) (p : List LoanP) (xs : List LineT) (w : World) (B : Int) (hp : Lies 5 LoanP.f w v p) (hl : Lies 7 LineT.f w l xs) (hW : ∀ o ∈ p, o.Wf B) (hB : B ≤ 2199023255552) (hn : p.length ≤ 64) (hU : Uniq p) :
    Calls Try.prog 16 #[v, l] w fun e w' =>
      (applyP p xs = none ∧ e = .returned (.tuple #[.slice none 0 0, AggP.zero.v, .int .i64 3]) ∧ Below w.heap.size w w') ∨
      ∃ q a v', applyP p xs = some (q, a) ∧ e = .returned (.tuple #[v', a.v, .int .i64 0]) ∧ w'.ownsRow w.heap.size 46 5 v' q.length (q.flatMap LoanP.f) ∧ Below w.heap.size w w' := by
  obtain ⟨i0, hi, hz0, hz1, hz2⟩ := info_parts Try.info_rloan
  obtain ⟨a, cap, rfl, _, hcm, _, _⟩ := id hl
  obtain ⟨aP, capP, rfl, _, _, _, _⟩ := id hp
  obtain ⟨n, hnl⟩ : ∃ n, xs.length = n := ⟨_, rfl⟩
  obtain ⟨m, em⟩ : ∃ m, p.length = m := ⟨_, rfl⟩
  have hlen := hl.len
  rw [hnl] at hl hlen ⊢
  rw [em] at hp hn ⊢
  unfold maxLen at hlen
  have hm : n ≤ 9223372036854775807 := by omega
  have hm2 : m ≤ 9223372036854775807 := by omega
  have HL : Hid (Lies 7 LineT.f w (.slice a n cap) xs) := hl
  have HN : Hid (xs.length = n) := hnl
  have HM : Hid (p.length = m) := em
  have HP : Hid (Lies 5 LoanP.f w (.slice aP m capP) p) := hp
  have HU : Hid (Uniq p) := hU
  clear hl hnl hcm hlen hp em hU
  go_enter Try.func16, Try.ntmps16
  go_upto_region 1 with fail
  refine wp_letter (fun wx => Below w.heap.size w wx ∧ ∃ gR, w.heap.size = gR ∧ Blk wx gR 49 AggP.zero.f) ⟨below_alloc (Below.refl _ _) _, _, rfl, Blk.fresh _ _ _⟩ ?_
  rintro W0 ⟨h0, gR, eR, bR⟩
  rw [eR]
  have hR : w.heap.size ≤ gR := Nat.le_of_eq eR
  clear eR
  cases hT : rightT xs with
  | false =>
    as_aux_lemma =>
      have HT : Hid (rightT xs = false) := hT
      have HF : Hid (applyP p xs = none) := by
        show _ = _
        rw [applyP, hT]
        rfl
      clear hT
      go_upto_region 2 with (go_at_call 29; refine (refRight_any _ xs _ (HL.out.below h0)).mono ?_; rintro e w1 ⟨rfl, d1⟩; rw [HT.out])
      have bB := below_then h0 d1
      replace bR := bR.then d1
      have f0 := bR.frozen 0; have f1 := bR.frozen 1; have f2 := bR.frozen 2; have f3 := bR.frozen 3
      have y0 := bR.cell 0 _ rfl; have y1 := bR.cell 1 _ rfl; have y2 := bR.cell 2 _ rfl; have y3 := bR.cell 3 _ rfl
      go_wp2
      exact ref_refuse bB hR bR _ rfl rfl rfl HF.out
  | true =>
    obtain ⟨F, hF⟩ : ∃ F, runP p xs = F := ⟨_, rfl⟩
    have HT : Hid (rightT xs = true) := hT
    have HF : Hid (applyP p xs = F) := by
      show _ = _
      rw [applyP, hT, ← hF]
      rfl
    have HS : Hid (restP p AggP.zero xs = F) := by
      show _ = _
      rw [restP_start, hF]
    have HK : Hid (∀ x ∈ xs, x.ok = true) := rightFrom_ok 0 xs (by
      unfold rightT at hT
      simp only [Bool.and_eq_true] at hT
      exact hT.2)
    clear hT hF
    go_upto_region 3 with (go_at_call 29; refine (refRight_any _ xs _ (HL.out.below h0)).mono ?_; rintro e w1 ⟨rfl, d1⟩; rw [HT.out])
    have bB := below_then h0 d1
    replace bR := bR.then d1
    clear h0 d1
    have OW : Hid ((w1.alloc (.cells #[] 46)).ownsRow w1.heap.size 46 5 (.slice (some ⟨w1.heap.size, 0, none⟩) 0 0) 0 []) := World.ownsRow_lit w1 #[] 0 (Nat.le_refl _) (Nat.zero_le _) rfl
    have SR : Hid (Src (w1.alloc (.cells #[] 46)) (.slice aP m capP) m (p.flatMap LoanP.f)) := by
      have := ((HP.out.below bB).below (below_alloc (Below.refl _ _) (.cells #[] 46))).src LoanP.len (by omega)
      rw [HM.out] at this
      exact this
    have FL : Hid ((p.flatMap LoanP.f).length = m * 5) := by
      show _ = _
      rw [flat_length LoanP.len, HM.out]
    have BS : Hid (w1.heap.size ≤ (w1.alloc (.cells #[] 46)).heap.size) := by
      show _ ≤ _
      simp
    go_upto_region 4 with (refine wpList_append_src rfl (.tmp 18) (.tmp 19) 40 rfl w1.heap.size 46 i0 (.agg #[.int .i64 0, .int .i64 0, .int .i64 0, .int .i64 0, .bool false]) 5 40 Try.underlying40 hi hz0 hz1 hz2 rfl (by decide) (.slice (some ⟨w1.heap.size, 0, none⟩) 0 0) 0 [] rfl OW.out (.slice aP m capP) m (p.flatMap LoanP.f) rfl SR.out FL.out (flat_one LoanP.one) (by unfold maxLen; omega) (by omega) BS.out ?_; intro v' w2 ow gr ob)
    rw [Nat.zero_add, List.nil_append] at ow
    have d2 : Below w1.heap.size w1 w2 := below_grown (below_alloc (Below.refl _ _) _) gr (fun k hk => (OW.out.lt k hk).1)
    have bB2 := below_then bB d2
    have hw1 : w.heap.size ≤ w1.heap.size := bB.size
    have gRw : gR < w1.heap.size := bR.lt
    replace bR := bR.then d2
    have hvR : ∀ g, v'.ownBlock = some g → g ≠ gR := fun g hg e => by
      have h1 := (ow.lt g hg).1
      omega
    have ow2 := own_base ow hw1
    clear OW SR FL BS gr ob d2 bB ow HP
    go_upto_region 5 with fail
    refine wp_letter (fun wx => ∃ gA, w2.heap.size = gA ∧ gR ≠ gA ∧ (∀ g, v'.ownBlock = some g → g ≠ gA) ∧ w.heap.size ≤ gA ∧ AppO w wx gR gA m v' B 0 p AggP.zero) ⟨_, rfl, by have := bR.lt; omega, fun g hg => by have := (ow2.lt g hg).2; omega, bB2.size, below_alloc bB2 _, hW, HM.out, ⟨by decide, by decide, by decide, by decide, by decide, by decide, by decide, by decide⟩, HU.out, bR.alloc _, Blk.fresh _ _ _, ow2.alloc _⟩ ?_
    clear bR bB2
    rintro W3 ⟨gA, eA, hRA, hvA, hwA, hI⟩
    rw [eA]
    clear eA ow2 hi hz0 hz1 hz2
    obtain ⟨aV, capV, rfl⟩ := own_slice hI.own
    go_wp2
    go_loopw [23] (fun i wr => ∃ (k : Nat) (q : List LoanP) (a : AggP), k ≤ n ∧ i = .int .i64 k ∧ restP q a (xs.drop k) = F ∧ AppO w wr gR gA m (.slice aV m capV) B k q a) (fun i _ => n - (intOf i).toNat)
    case atStart => exact ⟨0, p, AggP.zero, Nat.zero_le _, rfl, HS.out, hI⟩
    case round =>
    clear hI HS HU
    obtain ⟨k, q, ag, hk, rfl, hS, hI⟩ := hrel
    have HS : Hid (restP q ag (xs.drop k) = F) := hS
    clear hS
    by_cases hlt : k < n
    · obtain ⟨lb, off, x, rfl, hx, hmem, c0, c1, c2, c3, c4, c5, c6⟩ := HL.out.line k hlt
      have hB2 := hI.below
      replace c0 := cell_keep hB2 c0
      replace c1 := cell_keep hB2 c1
      replace c2 := cell_keep hB2 c2
      replace c3 := cell_keep hB2 c3
      replace c4 := cell_keep hB2 c4
      replace c5 := cell_keep hB2 c5
      replace c6 := cell_keep hB2 c6
      have hd : xs.drop k = x :: xs.drop (k + 1) := by
        obtain ⟨h1, rfl⟩ := List.getElem?_eq_some_iff.1 hx
        exact List.drop_eq_getElem_cons h1
      have HS2 : Hid (restP q ag (x :: xs.drop (k + 1)) = F) := by
        rw [← hd]
        exact HS
      have hok : x.ok = true := HK.out x hmem
      clear HS hd hx hmem
      go_upto_region 8 with fail
      refine wp_letter (fun wx => ∃ gL, wr.heap.size = gL ∧ Blk wx gL 32 x.f ∧ AppO w wx gR gA m (.slice aV m capV) B k q ag) ⟨_, rfl, Blk.fresh _ _ _, hI.then (below_alloc (Below.refl _ _) _)⟩ ?_
      have hLA : gA < wr.heap.size := hI.agg.lt
      have hLV : ∀ g, (Value.slice aV m capV).ownBlock = some g → g < wr.heap.size := fun g hg => (hI.own.lt g hg).2
      clear hB2 c0 c1 c2 c3 c4 c5 c6 hI
      rintro X ⟨gL, eL, bL, hI⟩
      rw [eL]
      rw [eL] at hLA hLV
      clear eL
      have x0 := bL.cell 0 _ rfl
      have LQ : Hid (Lies 5 LoanP.f X (.slice aV m capV) q) := own_lies LoanP.len hI.own hI.len
      go_upto_region 10 with fail
      go_loopw [11, 29] (fun c i wx => ∃ i' : Nat, i' ≤ m ∧ i = .int .i64 i' ∧ Seek q x.id i' c ∧ Below X.heap.size X wx) (fun _ i _ => m - (intOf i).toNat)
      case atStart => exact ⟨0, Nat.zero_le _, rfl, Or.inl ⟨rfl, fun j o h => absurd h (Nat.not_lt_zero _)⟩, Below.refl _ _⟩
      case round =>
      obtain ⟨i', hi', rfl, hSk, hBX⟩ := hrel
      have HSk : Hid (Seek q x.id i' u11) := hSk
      clear hSk
      by_cases hlti : i' < m
      · skip
        as_aux_lemma =>
          obtain ⟨yb, yo, y, rfl, hy, _, y0, y1, y2, y3, y4⟩ := LQ.out.loan i' hlti
          replace y0 := cell_keep hBX y0
          replace x0 := cell_keep hBX x0
          have HY : Hid (q[i']? = some y) := hy
          have i0 : (0 : Int) ≤ (i' : Int) := by omega
          have i1 : (i' : Int) < (m : Int) := by omega
          clear hy y1 y2 y3 y4
          by_cases g : y.id = x.id
          · go_wp2
            go_quiet (fail)
            go_wp2
            go_roundw
            case rel => exact ⟨i' + 1, by omega, by go_num, Or.inr ⟨i', y, by omega, rfl, HY.out, g⟩, below_draws hBX _⟩
            case measure => simp [intOf]; omega
          · go_wp2
            go_quiet (fail)
            go_wp2
            go_roundw
            case rel => exact ⟨i' + 1, by omega, by go_num, by
              rcases HSk.out with ⟨h1, h2⟩ | ⟨j, o, h1, h2, h3, h4⟩
              · refine Or.inl ⟨h1, fun j o hj ho => ?_⟩
                rcases Nat.lt_or_ge j i' with h | h
                · exact h2 j o h ho
                · obtain rfl : j = i' := by omega
                  rw [HY.out] at ho
                  injection ho with ho
                  subst ho
                  exact g
              · exact Or.inr ⟨j, o, by omega, h2, h3, h4⟩, below_draws hBX _⟩
            case measure => simp [intOf]; omega
      · obtain rfl : m = i' := by omega
        replace hI := hI.then hBX
        replace bL := bL.then hBX
        clear x0 LQ hBX
        rcases HSk.out with ⟨rfl, hno⟩ | ⟨j, o, hjm, rfl, ho, hid⟩
        · have hat : atP x.id q = none := atP_no fun o ho => by
            obtain ⟨j, hj⟩ := List.getElem?_of_mem ho
            exact hno j o (by rw [← hI.len]; exact (List.getElem?_eq_some_iff.1 hj).1) hj
          have bR := hI.res
          have f0 := bR.frozen 0; have f1 := bR.frozen 1; have f2 := bR.frozen 2; have f3 := bR.frozen 3
          have y0 := bR.cell 0 _ rfl; have y1 := bR.cell 1 _ rfl; have y2 := bR.cell 2 _ rfl; have y3 := bR.cell 3 _ rfl
          clear HSk hno
          go_wp2
          exact ref_refuse hI.below hR bR _ rfl rfl rfl (by rw [HF.out, ← HS2.out, restP_none hat])
        · obtain ⟨gV, cv, ev⟩ : ∃ g c, Value.slice aV m capV = .slice (some ⟨g, 0, none⟩) m c := by
            obtain ⟨c, g, e⟩ := own_addr hI.own (by omega)
            exact ⟨g, c, e⟩
          simp only [Value.slice.injEq, true_and] at ev
          obtain ⟨rfl, rfl⟩ := ev
          have hat : atP x.id q = some j := hI.uniq.at ho hid
          have hof : o.Wf B := hI.wf o (mem_at ho)
          have NN : Hid (AppN w gR gA gL gV m j q) := ⟨hI.len, hjm, (hI.own.lt gV rfl).1, hwA, Ne.symm (hvR gV rfl), Ne.symm (hvA gV rfl), fun e => by have := hLV gV rfl; omega, hRA, by omega⟩
          have HAT : Hid (atP x.id q = some j ∧ q[j]? = some o) := ⟨hat, ho⟩
          have HWF : Hid ((∀ o ∈ q, o.Wf B) ∧ ag.Bd (k * 2199023255552) ∧ Uniq q) := ⟨hI.wf, hI.bd, hI.uniq⟩
          go_upto_region 18 with fail
          refine wp_letter (fun wx => AppT w wx gR gA gL gV capV m j q o ag x) (hI.one bL ho) ?_
          clear HSk hat ho hid hI bL hLV hvR hvA
          intro X2 hT
          obtain ⟨⟨p0, p1, pp0, pp1, it0, it1, rc0, rc1⟩, lt0, lt1⟩ := (LineT.ok_iff x).1 hok
          obtain ⟨C, hC⟩ : ∃ C, kindP o x = C := ⟨_, rfl⟩
          have HC : Hid (kindP o x = C) := hC
          clear hC
          have HX2 : Hid (AppT w X2 gR gA gL gV capV m j q o ag x) := hT
          (obtain ⟨c0, c1, c2, c3, c4⟩ := AppT.loan hT NN.out; obtain ⟨s0, s1, s2, s3⟩ := AppT.sums hT; obtain ⟨l0, l1, l2, l3, l4, l5, l6⟩ := AppT.ln hT)
          clear hT
          go_cut [92] (fun c wx => c = .bool (!C) ∧ wx = X2)
          case first =>
            as_aux_lemma =>
              cases hov : o.over with
              | true =>
                rw [hov] at c4
                by_cases g1 : 0 < x.pr
                · (have e : C = false := (by rw [← HC.out]; simp [kindP, *]; try omega); subst e; go_wp2_with fail; go_meet; (case rel => exact ⟨rfl, rfl⟩))
                · by_cases g2 : 0 < x.pp
                  · (have e : C = false := (by rw [← HC.out]; simp [kindP, *]; try omega); subst e; go_wp2_with fail; go_meet; (case rel => exact ⟨rfl, rfl⟩))
                  · by_cases g3 : 0 < x.it
                    · (have e : C = false := (by rw [← HC.out]; simp [kindP, *]; try omega); subst e; go_wp2_with fail; go_meet; (case rel => exact ⟨rfl, rfl⟩))
                    · cases hdf : x.df with
                      | true =>
                        rw [hdf] at l6
                        (have e : C = false := (by rw [← HC.out]; simp [kindP, *]; try omega); subst e; go_wp2_with fail; go_meet; (case rel => exact ⟨rfl, rfl⟩))
                      | false =>
                        rw [hdf] at l6
                        by_cases g4 : 0 < x.lt
                        · (have e : C = false := (by rw [← HC.out]; simp [kindP, *]; try omega); subst e; go_wp2_with fail; go_meet; (case rel => exact ⟨rfl, rfl⟩))
                        · (have e : C = true := (by rw [← HC.out]; simp [kindP, *]; try omega); subst e; go_wp2_with fail; go_meet; (case rel => exact ⟨rfl, rfl⟩))
              | false =>
                rw [hov] at c4
                by_cases g1 : 0 < x.rc
                · cases hdf : x.df with
                  | true =>
                    rw [hdf] at l6
                    (have e : C = true := (by rw [← HC.out]; simp [kindP, *]; try omega); subst e; go_wp2_with fail; go_meet; (case rel => exact ⟨rfl, rfl⟩))
                  | false =>
                    rw [hdf] at l6
                    (have e : C = false := (by rw [← HC.out]; simp [kindP, *]; try omega); subst e; go_wp2_with fail; go_meet; (case rel => exact ⟨rfl, rfl⟩))
                · (have e : C = true := (by rw [← HC.out]; simp [kindP, *]; try omega); subst e; go_wp2_with fail; go_meet; (case rel => exact ⟨rfl, rfl⟩))
          case rest =>
            obtain ⟨rfl, rfl⟩ := hcut
            have hfz := HX2.out.own.frozenAt
            have f1 := hfz (j * 5 + 1); have f2 := hfz (j * 5 + 2); have f3 := hfz (j * 5 + 3); have f4 := hfz (j * 5 + 4)
            have bR := HX2.out.res
            have r0 := bR.cell 0 _ rfl; have r1 := bR.cell 1 _ rfl; have r2 := bR.cell 2 _ rfl; have r3 := bR.cell 3 _ rfl
            have rf0 := bR.frozen 0; have rf1 := bR.frozen 1; have rf2 := bR.frozen 2; have rf3 := bR.frozen 3
            have hob := hof.b0; have hob1 := hof.b1
            clear hfz bR
            cases C with
            | false =>
              as_aux_lemma =>
                clear f1 f2 f3 f4 c0 c1 c2 c3 c4 s0 s1 s2 s3 l0 l1 l2 l3 l4 l5 l6
                go_wp2
                exact ref_refuse HX2.out.below hR HX2.out.res _ rfl rfl rfl (by rw [HF.out, ← HS2.out, restP_no HAT.out.1 HAT.out.2 (by unfold mayP; rw [HC.out]; rfl)])
            | true =>
              by_cases g1 : x.pr + x.pp ≤ o.bal
              · have w1 : IntKind.i64.wrap (x.pr + x.pp) = x.pr + x.pp := wrap_in _ (by omega) (by omega)
                have w2 : IntKind.i64.wrap (o.bal - x.pr) = o.bal - x.pr := wrap_in _ (by omega) (by omega)
                have w3 : IntKind.i64.wrap (o.bal - x.pr - x.pp) = o.bal - x.pr - x.pp := wrap_in _ (by omega) (by omega)
                go_upto_region 20 with fail
                go_quiet (fail)
                go_upto_region 22 with fail
                go_region
                go_upto_region 23 with fail
                refine wp_letter (fun wx => AppT w wx gR gA gL gV capV m j q ⟨o.id, o.bal - x.pr - x.pp, o.lost, o.late, o.over⟩ ag x) ((HX2.out.drews _).put NN.out 1 _ _ (by decide) rfl) ?_
                clear HX2 f1 f2 f3 f4 c0 c1 c2 c3 c4 s0 s1 s2 s3 l0 l1 l2 l3 l4 l5 l6 r0 r1 r2 r3 rf0 rf1 rf2 rf3
                intro X3 hT
                obtain ⟨L, eL⟩ : ∃ L, o.bal - x.pr - x.pp = L := ⟨_, rfl⟩
                have HLP : Hid (leftP o x = L) := eL
                rw [eL] at hT w3
                have hL0 : 0 ≤ L := by omega
                have hL1 : L ≤ 2199023255552 := by omega
                clear eL
                obtain ⟨a0, a1, i0', i1', b0, b1, d0, d1⟩ := HWF.out.2.1
                have hk64 : k < 64 := by
                  have := rightT_len HT.out
                  have := HN.out
                  omega
                (obtain ⟨c0, c1, c2, c3, c4⟩ := AppT.loan hT NN.out; obtain ⟨s0, s1, s2, s3⟩ := AppT.sums hT; obtain ⟨l0, l1, l2, l3, l4, l5, l6⟩ := AppT.ln hT)
                (have hfz := (AppT.own hT).frozenAt; have f1 := hfz (j * 5 + 1); have f2 := hfz (j * 5 + 2); have f3 := hfz (j * 5 + 3); have f4 := hfz (j * 5 + 4); have hfa := (AppT.agg hT).frozen; have fa0 := hfa 0; have fa1 := hfa 1; have fa2 := hfa 2; have fa3 := hfa 3; clear hfz hfa)
                have HX3 : Hid (AppT w X3 gR gA gL gV capV m j q ⟨o.id, L, o.lost, o.late, o.over⟩ ag x) := hT
                clear hT
                go_upto_if 119 with fail
                go_cut [119] (fun _ wx => AppT w wx gR gA gL gV capV m j q ⟨o.id, if x.df then 0 else L, if x.df then L else o.lost, o.late, x.df || o.over⟩ ⟨ag.pr, ag.it, ag.ls + (if x.df then L else 0), ag.rc⟩ x)
                case first =>
                  as_aux_lemma =>
                    cases hdf : x.df with
                    | false =>
                      go_wp2_with fail
                      go_meet
                      case rel => simpa [hdf] using HX3.out
                    | true =>
                      have w4 : IntKind.i64.wrap (ag.ls + L) = ag.ls + L := wrap_in _ (by omega) (by omega)
                      go_upto_region 24 with fail
                      go_region
                      go_upto_region 25 with fail
                      refine wp_letter (fun wx => AppT w wx gR gA gL gV capV m j q ⟨o.id, L, o.lost, o.late, o.over⟩ ⟨ag.pr, ag.it, ag.ls + L, ag.rc⟩ x) ((HX3.out.add NN.out 2 (.int .i64 (ag.ls + L)) ⟨ag.pr, ag.it, ag.ls + L, ag.rc⟩ rfl).drew) ?_
                      clear HX3 f1 f2 f3 f4 c0 c1 c2 c3 c4 s0 s1 s2 s3 l0 l1 l2 l3 l4 l5 l6 fa0 fa1 fa2 fa3
                      intro X4 hT
                      (obtain ⟨c0, c1, c2, c3, c4⟩ := AppT.loan hT NN.out; obtain ⟨s0, s1, s2, s3⟩ := AppT.sums hT; obtain ⟨l0, l1, l2, l3, l4, l5, l6⟩ := AppT.ln hT)
                      (have hfz := (AppT.own hT).frozenAt; have f1 := hfz (j * 5 + 1); have f2 := hfz (j * 5 + 2); have f3 := hfz (j * 5 + 3); have f4 := hfz (j * 5 + 4); have hfa := (AppT.agg hT).frozen; have fa0 := hfa 0; have fa1 := hfa 1; have fa2 := hfa 2; have fa3 := hfa 3; clear hfz hfa)
                      have HX4 : Hid (AppT w (((X4.setCell ⟨gV, j * 5 + 2, none⟩ (.int .i64 L)).setCell ⟨gV, j * 5 + 1, none⟩ (.int .i64 0)).setCell ⟨gV, j * 5 + 4, none⟩ (.bool true)) gR gA gL gV capV m j q ⟨o.id, 0, L, o.late, true⟩ ⟨ag.pr, ag.it, ag.ls + L, ag.rc⟩ x) := ((hT.put NN.out 2 (.int .i64 L) ⟨o.id, L, L, o.late, o.over⟩ (by decide) rfl).put NN.out 1 (.int .i64 0) ⟨o.id, 0, L, o.late, o.over⟩ (by decide) rfl).put NN.out 4 (.bool true) ⟨o.id, 0, L, o.late, true⟩ (by decide) rfl
                      clear hT
                      go_wp2_with fail
                      go_meet
                      case rel => simpa [hdf] using HX4.out
                case rest =>
                  obtain ⟨b', eb⟩ : ∃ b', (if x.df = true then 0 else L) = b' := ⟨_, rfl⟩
                  obtain ⟨lo, el⟩ : ∃ lo, (if x.df = true then L else o.lost) = lo := ⟨_, rfl⟩
                  obtain ⟨vv, ev⟩ : ∃ vv, (x.df || o.over) = vv := ⟨_, rfl⟩
                  obtain ⟨lz, ez⟩ : ∃ lz, (if x.df = true then L else 0) = lz := ⟨_, rfl⟩
                  rw [eb, el, ev, ez] at hcut
                  have hlo0 : 0 ≤ lo := by rw [← el]; split; exact hL0; exact hof.l0
                  have hlo1 : lo ≤ 2199023255552 := by rw [← el]; split; exact hL1; exact Int.le_trans hof.l1 hB
                  have hlz0 : 0 ≤ lz := by rw [← ez]; split; exact hL0; omega
                  have hlz1 : lz ≤ 2199023255552 := by rw [← ez]; split; exact hL1; omega
                  have HLO : Hid (lostP o x = lo) := by
                    show lostP o x = lo
                    rw [lostP, HLP.out, el]
                  have HD : Hid (doP o x = ⟨o.id, b', lo - x.rc, if (vv || b' == 0) = true then 0 else x.lt, vv⟩) := by
                    show doP o x = _
                    rw [doP, HLP.out, HLO.out, eb, ev]
                  have HAG : Hid (aggP o x = ⟨x.pr + x.pp, x.it, lz, x.rc⟩) := by
                    show aggP o x = _
                    rw [aggP, HLP.out, ez]
                  have HG1 : Hid (x.pr + x.pp ≤ o.bal) := g1
                  have HX4 : Hid (AppT w wc gR gA gL gV capV m j q ⟨o.id, b', lo, o.late, vv⟩ ⟨ag.pr, ag.it, ag.ls + lz, ag.rc⟩ x) := hcut
                  clear hcut HX3 f1 f2 f3 f4 c0 c1 c2 c3 c4 s0 s1 s2 s3 l0 l1 l2 l3 l4 l5 l6 fa0 fa1 fa2 fa3 eb el ev ez
                  (obtain ⟨c0, c1, c2, c3, c4⟩ := AppT.loan HX4.out NN.out; obtain ⟨s0, s1, s2, s3⟩ := AppT.sums HX4.out; obtain ⟨l0, l1, l2, l3, l4, l5, l6⟩ := AppT.ln HX4.out)
                  (have hfz := (AppT.own HX4.out).frozenAt; have f1 := hfz (j * 5 + 1); have f2 := hfz (j * 5 + 2); have f3 := hfz (j * 5 + 3); have f4 := hfz (j * 5 + 4); have hfa := (AppT.agg HX4.out).frozen; have fa0 := hfa 0; have fa1 := hfa 1; have fa2 := hfa 2; have fa3 := hfa 3; clear hfz hfa)
                  by_cases g2 : x.rc ≤ lo
                  · have w5 : IntKind.i64.wrap (lo - x.rc) = lo - x.rc := wrap_in _ (by omega) (by omega)
                    go_upto_region 26 with fail
                    go_quiet (fail)
                    go_upto_region 28 with fail
                    go_region
                    go_upto_region 29 with fail
                    refine wp_letter (fun wx => AppT w wx gR gA gL gV capV m j q ⟨o.id, b', lo - x.rc, o.late, vv⟩ ⟨ag.pr, ag.it, ag.ls + lz, ag.rc⟩ x) ((HX4.out.drews _).put NN.out 2 (.int .i64 (lo - x.rc)) ⟨o.id, b', lo - x.rc, o.late, vv⟩ (by decide) rfl) ?_
                    clear HX4 f1 f2 f3 f4 c0 c1 c2 c3 c4 s0 s1 s2 s3 l0 l1 l2 l3 l4 l5 l6 fa0 fa1 fa2 fa3
                    intro X5 hT
                    (obtain ⟨c0, c1, c2, c3, c4⟩ := AppT.loan hT NN.out; obtain ⟨s0, s1, s2, s3⟩ := AppT.sums hT; obtain ⟨l0, l1, l2, l3, l4, l5, l6⟩ := AppT.ln hT)
                    (have hfz := (AppT.own hT).frozenAt; have f1 := hfz (j * 5 + 1); have f2 := hfz (j * 5 + 2); have f3 := hfz (j * 5 + 3); have f4 := hfz (j * 5 + 4); have hfa := (AppT.agg hT).frozen; have fa0 := hfa 0; have fa1 := hfa 1; have fa2 := hfa 2; have fa3 := hfa 3; clear hfz hfa)
                    have HX5 : Hid (AppT w (X5.setCell ⟨gV, j * 5 + 3, none⟩ (.int .i64 x.lt)) gR gA gL gV capV m j q ⟨o.id, b', lo - x.rc, x.lt, vv⟩ ⟨ag.pr, ag.it, ag.ls + lz, ag.rc⟩ x) := hT.put NN.out 3 (.int .i64 x.lt) ⟨o.id, b', lo - x.rc, x.lt, vv⟩ (by decide) rfl
                    clear hT
                    go_upto_region 30 with fail
                    refine wp_letter (fun wx => AppT w wx gR gA gL gV capV m j q ⟨o.id, b', lo - x.rc, x.lt, vv⟩ ⟨ag.pr, ag.it, ag.ls + lz, ag.rc⟩ x) HX5.out ?_
                    clear HX5 f1 f2 f3 f4 c0 c1 c2 c3 c4 s0 s1 s2 s3 l0 l1 l2 l3 l4 l5 l6 fa0 fa1 fa2 fa3
                    intro X6 hT
                    have HX6 : Hid (AppT w X6 gR gA gL gV capV m j q ⟨o.id, b', lo - x.rc, x.lt, vv⟩ ⟨ag.pr, ag.it, ag.ls + lz, ag.rc⟩ x) := hT
                    (obtain ⟨c0, c1, c2, c3, c4⟩ := AppT.loan hT NN.out; obtain ⟨s0, s1, s2, s3⟩ := AppT.sums hT; obtain ⟨l0, l1, l2, l3, l4, l5, l6⟩ := AppT.ln hT)
                    (have hfz := (AppT.own hT).frozenAt; have f1 := hfz (j * 5 + 1); have f2 := hfz (j * 5 + 2); have f3 := hfz (j * 5 + 3); have f4 := hfz (j * 5 + 4); have hfa := (AppT.agg hT).frozen; have fa0 := hfa 0; have fa1 := hfa 1; have fa2 := hfa 2; have fa3 := hfa 3; clear hfz hfa)
                    clear hT
                    go_cut [174] (fun c wx => c = .bool (vv || b' == 0) ∧ wx = X6)
                    case first =>
                      as_aux_lemma =>
                        cases hvv : vv with
                        | true =>
                          rw [hvv] at c4
                          go_wp2_with fail
                          go_meet
                          case rel => exact ⟨by simp [hvv], rfl⟩
                        | false =>
                          rw [hvv] at c4
                          by_cases hb : b' = 0
                          · go_wp2_with fail
                            go_meet
                            case rel => exact ⟨by simp [hvv, hb], rfl⟩
                          · go_wp2_with fail
                            go_meet
                            case rel => exact ⟨by simp [hvv], rfl⟩
                    case rest =>
                      obtain ⟨rfl, rfl⟩ := hcut
                      obtain ⟨oo, hoo⟩ : ∃ oo, doP o x = oo := ⟨_, rfl⟩
                      have HO : Hid (doP o x = oo) := hoo
                      clear hoo
                      go_upto_if 174 with fail
                      go_cut [174] (fun _ wx => AppT w wx gR gA gL gV capV m j q oo ⟨ag.pr, ag.it, ag.ls + lz, ag.rc⟩ x)
                      case first =>
                        as_aux_lemma =>
                          cases hz : (vv || b' == 0) with
                          | true =>
                            have HE : Hid (oo = ⟨o.id, b', lo - x.rc, 0, vv⟩) := by
                              show oo = _
                              rw [← HO.out, HD.out, hz]
                              rfl
                            have HX7 : Hid (AppT w (wc.setCell ⟨gV, j * 5 + 3, none⟩ (.int .i64 0)) gR gA gL gV capV m j q oo ⟨ag.pr, ag.it, ag.ls + lz, ag.rc⟩ x) := HX6.out.put NN.out 3 (.int .i64 0) oo (by decide) (by rw [HE.out]; rfl)
                            go_wp2_with fail
                            go_meet
                            case rel => exact HX7.out
                          | false =>
                            have HE : Hid (oo = ⟨o.id, b', lo - x.rc, x.lt, vv⟩) := by
                              show oo = _
                              rw [← HO.out, HD.out, hz]
                              rfl
                            go_wp2_with fail
                            go_meet
                            case rel => rw [HE.out]; exact HX6.out
                      case rest =>
                        have HX7 : Hid (AppT w wc gR gA gL gV capV m j q oo ⟨ag.pr, ag.it, ag.ls + lz, ag.rc⟩ x) := hcut
                        clear hcut HX6 HD f1 f2 f3 f4 c0 c1 c2 c3 c4 s0 s1 s2 s3 l0 l1 l2 l3 l4 l5 l6 fa0 fa1 fa2 fa3
                        have w6 : IntKind.i64.wrap (ag.pr + x.pr) = ag.pr + x.pr := wrap_in _ (by omega) (by omega)
                        have w7 : IntKind.i64.wrap (ag.pr + x.pr + x.pp) = ag.pr + x.pr + x.pp := wrap_in _ (by omega) (by omega)
                        have w8 : IntKind.i64.wrap (ag.it + x.it) = ag.it + x.it := wrap_in _ (by omega) (by omega)
                        have w9 : IntKind.i64.wrap (ag.rc + x.rc) = ag.rc + x.rc := wrap_in _ (by omega) (by omega)
                        go_upto_region 32 with fail
                        refine wp_region_g [178, 179, 180, 181, 182, 183, 184, 185, 186, 187, 188, 189, 190, 191, 192, 193, 194, 195, 196, 0, 197, 0, 198, 0] [0, 1, 2, 3, 4, 5, 6, 7, 8, 9, 10, 11, 12, 13, 14, 15, 16, 17, 18, 20, 22] [fun v => v = (.pointer (some ⟨gA, 0, none⟩) : Value), fun v => v = (.int .i64 ag.pr : Value), fun v => v = (.pointer (some ⟨gL, 1, none⟩) : Value), fun v => v = (.int .i64 x.pr : Value), fun v => v = (.int .i64 (ag.pr + x.pr) : Value), fun v => v = (.pointer (some ⟨gL, 2, none⟩) : Value), fun v => v = (.int .i64 x.pp : Value), fun v => v = (.int .i64 (ag.pr + x.pr + x.pp) : Value), fun v => v = (.pointer (some ⟨gA, 1, none⟩) : Value), fun v => v = (.int .i64 ag.it : Value), fun v => v = (.pointer (some ⟨gL, 3, none⟩) : Value), fun v => v = (.int .i64 x.it : Value), fun v => v = (.int .i64 (ag.it + x.it) : Value), fun v => v = (.pointer (some ⟨gA, 3, none⟩) : Value), fun v => v = (.int .i64 ag.rc : Value), fun v => v = (.pointer (some ⟨gL, 4, none⟩) : Value), fun v => v = (.int .i64 x.rc : Value), fun v => v = (.int .i64 (ag.rc + x.rc) : Value), fun v => v = (.pointer (some ⟨gA, 0, none⟩) : Value), fun _ => True, fun v => v = (.pointer (some ⟨gA, 1, none⟩) : Value), fun _ => True, fun v => v = (.pointer (some ⟨gA, 3, none⟩) : Value), fun _ => True] (fun D wx => AppT w wx gR gA gL gV capV m j q oo ⟨if D 19 then ag.pr + x.pr + x.pp else ag.pr, if D 21 then ag.it + x.it else ag.it, ag.ls + lz, if D 23 then ag.rc + x.rc else ag.rc⟩ x) [0, 1, 2, 3, 4, 5, 6, 7, 8, 9, 10, 11, 12, 13, 14, 15, 16, 17, 18, 19, 20, 21, 22, 23] (by kernel_rfl) (by kernel_rfl) (by kernel_rfl) (by simpa using HX7.out.drew) ?_ ?_
                        · skip
                          refine StepsG.cons (some 178) rfl rfl (fun y wx D hg hF hno K hK => ?_) ?_
                          · skip
                            simp only [acts, Act.put, List.getD_cons_zero, List.getD_cons_succ, List.setIfInBounds_toArray, List.set_cons_zero, List.set_cons_succ]
                            go_simp
                            refine hK.out _ _ (afterG_mk (.pointer (some ⟨gA, 0, none⟩)) ?_ rfl (by simpa using hg))
                            simp only [acts, Act.put, List.getD_cons_zero, List.getD_cons_succ, List.setIfInBounds_toArray, List.set_cons_zero, List.set_cons_succ]
                          refine StepsG.cons (some 179) rfl rfl (fun y wx D hg hF hno K hK => ?_) ?_
                          · skip
                            have f1 : y 0 = .pointer (some ⟨gA, 0, none⟩) := (hF 0 (by kernel_rfl)).2
                            have h1 : D 19 = false := hno 19 (by kernel_rfl)
                            have c1 : wx.cell? ⟨gA, 0, none⟩ = some (.int .i64 ag.pr) := by
                              have := hg.agg.cell 0 _ rfl
                              simpa [h1] using this
                            simp only [acts, Act.put, List.getD_cons_zero, List.getD_cons_succ, List.setIfInBounds_toArray, List.set_cons_zero, List.set_cons_succ]
                            go_simp
                            refine hK.out _ _ (afterG_mk (.int .i64 ag.pr) ?_ rfl (by simpa using hg))
                            simp only [acts, Act.put, List.getD_cons_zero, List.getD_cons_succ, List.setIfInBounds_toArray, List.set_cons_zero, List.set_cons_succ]
                            try simp only [f1]
                          refine StepsG.cons (some 180) rfl rfl (fun y wx D hg hF hno K hK => ?_) ?_
                          · skip
                            simp only [acts, Act.put, List.getD_cons_zero, List.getD_cons_succ, List.setIfInBounds_toArray, List.set_cons_zero, List.set_cons_succ]
                            go_simp
                            refine hK.out _ _ (afterG_mk (.pointer (some ⟨gL, 1, none⟩)) ?_ rfl (by simpa using hg))
                            simp only [acts, Act.put, List.getD_cons_zero, List.getD_cons_succ, List.setIfInBounds_toArray, List.set_cons_zero, List.set_cons_succ]
                          refine StepsG.cons (some 181) rfl rfl (fun y wx D hg hF hno K hK => ?_) ?_
                          · skip
                            have f1 : y 2 = .pointer (some ⟨gL, 1, none⟩) := (hF 2 (by kernel_rfl)).2
                            have c1 : wx.cell? ⟨gL, 1, none⟩ = some (.int .i64 x.pr) := hg.line.cell 1 _ rfl
                            simp only [acts, Act.put, List.getD_cons_zero, List.getD_cons_succ, List.setIfInBounds_toArray, List.set_cons_zero, List.set_cons_succ]
                            go_simp
                            refine hK.out _ _ (afterG_mk (.int .i64 x.pr) ?_ rfl (by simpa using hg))
                            simp only [acts, Act.put, List.getD_cons_zero, List.getD_cons_succ, List.setIfInBounds_toArray, List.set_cons_zero, List.set_cons_succ]
                            try simp only [f1]
                          refine StepsG.cons (some 182) rfl rfl (fun y wx D hg hF hno K hK => ?_) ?_
                          · skip
                            have f1 : y 1 = .int .i64 ag.pr := (hF 1 (by kernel_rfl)).2
                            have f2 : y 3 = .int .i64 x.pr := (hF 3 (by kernel_rfl)).2
                            simp only [acts, Act.put, List.getD_cons_zero, List.getD_cons_succ, List.setIfInBounds_toArray, List.set_cons_zero, List.set_cons_succ]
                            go_simp
                            refine hK.out _ _ (afterG_mk (.int .i64 (ag.pr + x.pr)) ?_ rfl (by simpa using hg))
                            simp only [acts, Act.put, List.getD_cons_zero, List.getD_cons_succ, List.setIfInBounds_toArray, List.set_cons_zero, List.set_cons_succ]
                            try simp only [f1, f2]
                          refine StepsG.cons (some 183) rfl rfl (fun y wx D hg hF hno K hK => ?_) ?_
                          · skip
                            simp only [acts, Act.put, List.getD_cons_zero, List.getD_cons_succ, List.setIfInBounds_toArray, List.set_cons_zero, List.set_cons_succ]
                            go_simp
                            refine hK.out _ _ (afterG_mk (.pointer (some ⟨gL, 2, none⟩)) ?_ rfl (by simpa using hg))
                            simp only [acts, Act.put, List.getD_cons_zero, List.getD_cons_succ, List.setIfInBounds_toArray, List.set_cons_zero, List.set_cons_succ]
                          refine StepsG.cons (some 184) rfl rfl (fun y wx D hg hF hno K hK => ?_) ?_
                          · skip
                            have f1 : y 5 = .pointer (some ⟨gL, 2, none⟩) := (hF 5 (by kernel_rfl)).2
                            have c1 : wx.cell? ⟨gL, 2, none⟩ = some (.int .i64 x.pp) := hg.line.cell 2 _ rfl
                            simp only [acts, Act.put, List.getD_cons_zero, List.getD_cons_succ, List.setIfInBounds_toArray, List.set_cons_zero, List.set_cons_succ]
                            go_simp
                            refine hK.out _ _ (afterG_mk (.int .i64 x.pp) ?_ rfl (by simpa using hg))
                            simp only [acts, Act.put, List.getD_cons_zero, List.getD_cons_succ, List.setIfInBounds_toArray, List.set_cons_zero, List.set_cons_succ]
                            try simp only [f1]
                          refine StepsG.cons (some 185) rfl rfl (fun y wx D hg hF hno K hK => ?_) ?_
                          · skip
                            have f1 : y 4 = .int .i64 (ag.pr + x.pr) := (hF 4 (by kernel_rfl)).2
                            have f2 : y 6 = .int .i64 x.pp := (hF 6 (by kernel_rfl)).2
                            simp only [acts, Act.put, List.getD_cons_zero, List.getD_cons_succ, List.setIfInBounds_toArray, List.set_cons_zero, List.set_cons_succ]
                            go_simp
                            refine hK.out _ _ (afterG_mk (.int .i64 (ag.pr + x.pr + x.pp)) ?_ rfl (by simpa using hg))
                            simp only [acts, Act.put, List.getD_cons_zero, List.getD_cons_succ, List.setIfInBounds_toArray, List.set_cons_zero, List.set_cons_succ]
                            try simp only [f1, f2]
                          refine StepsG.cons (some 186) rfl rfl (fun y wx D hg hF hno K hK => ?_) ?_
                          · skip
                            simp only [acts, Act.put, List.getD_cons_zero, List.getD_cons_succ, List.setIfInBounds_toArray, List.set_cons_zero, List.set_cons_succ]
                            go_simp
                            refine hK.out _ _ (afterG_mk (.pointer (some ⟨gA, 1, none⟩)) ?_ rfl (by simpa using hg))
                            simp only [acts, Act.put, List.getD_cons_zero, List.getD_cons_succ, List.setIfInBounds_toArray, List.set_cons_zero, List.set_cons_succ]
                          refine StepsG.cons (some 187) rfl rfl (fun y wx D hg hF hno K hK => ?_) ?_
                          · skip
                            have f1 : y 8 = .pointer (some ⟨gA, 1, none⟩) := (hF 8 (by kernel_rfl)).2
                            have h1 : D 21 = false := hno 21 (by kernel_rfl)
                            have c1 : wx.cell? ⟨gA, 1, none⟩ = some (.int .i64 ag.it) := by
                              have := hg.agg.cell 1 _ rfl
                              simpa [h1] using this
                            simp only [acts, Act.put, List.getD_cons_zero, List.getD_cons_succ, List.setIfInBounds_toArray, List.set_cons_zero, List.set_cons_succ]
                            go_simp
                            refine hK.out _ _ (afterG_mk (.int .i64 ag.it) ?_ rfl (by simpa using hg))
                            simp only [acts, Act.put, List.getD_cons_zero, List.getD_cons_succ, List.setIfInBounds_toArray, List.set_cons_zero, List.set_cons_succ]
                            try simp only [f1]
                          refine StepsG.cons (some 188) rfl rfl (fun y wx D hg hF hno K hK => ?_) ?_
                          · skip
                            simp only [acts, Act.put, List.getD_cons_zero, List.getD_cons_succ, List.setIfInBounds_toArray, List.set_cons_zero, List.set_cons_succ]
                            go_simp
                            refine hK.out _ _ (afterG_mk (.pointer (some ⟨gL, 3, none⟩)) ?_ rfl (by simpa using hg))
                            simp only [acts, Act.put, List.getD_cons_zero, List.getD_cons_succ, List.setIfInBounds_toArray, List.set_cons_zero, List.set_cons_succ]
                          refine StepsG.cons (some 189) rfl rfl (fun y wx D hg hF hno K hK => ?_) ?_
                          · skip
                            have f1 : y 10 = .pointer (some ⟨gL, 3, none⟩) := (hF 10 (by kernel_rfl)).2
                            have c1 : wx.cell? ⟨gL, 3, none⟩ = some (.int .i64 x.it) := hg.line.cell 3 _ rfl
                            simp only [acts, Act.put, List.getD_cons_zero, List.getD_cons_succ, List.setIfInBounds_toArray, List.set_cons_zero, List.set_cons_succ]
                            go_simp
                            refine hK.out _ _ (afterG_mk (.int .i64 x.it) ?_ rfl (by simpa using hg))
                            simp only [acts, Act.put, List.getD_cons_zero, List.getD_cons_succ, List.setIfInBounds_toArray, List.set_cons_zero, List.set_cons_succ]
                            try simp only [f1]
                          refine StepsG.cons (some 190) rfl rfl (fun y wx D hg hF hno K hK => ?_) ?_
                          · skip
                            have f1 : y 9 = .int .i64 ag.it := (hF 9 (by kernel_rfl)).2
                            have f2 : y 11 = .int .i64 x.it := (hF 11 (by kernel_rfl)).2
                            simp only [acts, Act.put, List.getD_cons_zero, List.getD_cons_succ, List.setIfInBounds_toArray, List.set_cons_zero, List.set_cons_succ]
                            go_simp
                            refine hK.out _ _ (afterG_mk (.int .i64 (ag.it + x.it)) ?_ rfl (by simpa using hg))
                            simp only [acts, Act.put, List.getD_cons_zero, List.getD_cons_succ, List.setIfInBounds_toArray, List.set_cons_zero, List.set_cons_succ]
                            try simp only [f1, f2]
                          refine StepsG.cons (some 191) rfl rfl (fun y wx D hg hF hno K hK => ?_) ?_
                          · skip
                            simp only [acts, Act.put, List.getD_cons_zero, List.getD_cons_succ, List.setIfInBounds_toArray, List.set_cons_zero, List.set_cons_succ]
                            go_simp
                            refine hK.out _ _ (afterG_mk (.pointer (some ⟨gA, 3, none⟩)) ?_ rfl (by simpa using hg))
                            simp only [acts, Act.put, List.getD_cons_zero, List.getD_cons_succ, List.setIfInBounds_toArray, List.set_cons_zero, List.set_cons_succ]
                          refine StepsG.cons (some 192) rfl rfl (fun y wx D hg hF hno K hK => ?_) ?_
                          · skip
                            have f1 : y 13 = .pointer (some ⟨gA, 3, none⟩) := (hF 13 (by kernel_rfl)).2
                            have h1 : D 23 = false := hno 23 (by kernel_rfl)
                            have c1 : wx.cell? ⟨gA, 3, none⟩ = some (.int .i64 ag.rc) := by
                              have := hg.agg.cell 3 _ rfl
                              simpa [h1] using this
                            simp only [acts, Act.put, List.getD_cons_zero, List.getD_cons_succ, List.setIfInBounds_toArray, List.set_cons_zero, List.set_cons_succ]
                            go_simp
                            refine hK.out _ _ (afterG_mk (.int .i64 ag.rc) ?_ rfl (by simpa using hg))
                            simp only [acts, Act.put, List.getD_cons_zero, List.getD_cons_succ, List.setIfInBounds_toArray, List.set_cons_zero, List.set_cons_succ]
                            try simp only [f1]
                          refine StepsG.cons (some 193) rfl rfl (fun y wx D hg hF hno K hK => ?_) ?_
                          · skip
                            simp only [acts, Act.put, List.getD_cons_zero, List.getD_cons_succ, List.setIfInBounds_toArray, List.set_cons_zero, List.set_cons_succ]
                            go_simp
                            refine hK.out _ _ (afterG_mk (.pointer (some ⟨gL, 4, none⟩)) ?_ rfl (by simpa using hg))
                            simp only [acts, Act.put, List.getD_cons_zero, List.getD_cons_succ, List.setIfInBounds_toArray, List.set_cons_zero, List.set_cons_succ]
                          refine StepsG.cons (some 194) rfl rfl (fun y wx D hg hF hno K hK => ?_) ?_
                          · skip
                            have f1 : y 15 = .pointer (some ⟨gL, 4, none⟩) := (hF 15 (by kernel_rfl)).2
                            have c1 : wx.cell? ⟨gL, 4, none⟩ = some (.int .i64 x.rc) := hg.line.cell 4 _ rfl
                            simp only [acts, Act.put, List.getD_cons_zero, List.getD_cons_succ, List.setIfInBounds_toArray, List.set_cons_zero, List.set_cons_succ]
                            go_simp
                            refine hK.out _ _ (afterG_mk (.int .i64 x.rc) ?_ rfl (by simpa using hg))
                            simp only [acts, Act.put, List.getD_cons_zero, List.getD_cons_succ, List.setIfInBounds_toArray, List.set_cons_zero, List.set_cons_succ]
                            try simp only [f1]
                          refine StepsG.cons (some 195) rfl rfl (fun y wx D hg hF hno K hK => ?_) ?_
                          · skip
                            have f1 : y 14 = .int .i64 ag.rc := (hF 14 (by kernel_rfl)).2
                            have f2 : y 16 = .int .i64 x.rc := (hF 16 (by kernel_rfl)).2
                            simp only [acts, Act.put, List.getD_cons_zero, List.getD_cons_succ, List.setIfInBounds_toArray, List.set_cons_zero, List.set_cons_succ]
                            go_simp
                            refine hK.out _ _ (afterG_mk (.int .i64 (ag.rc + x.rc)) ?_ rfl (by simpa using hg))
                            simp only [acts, Act.put, List.getD_cons_zero, List.getD_cons_succ, List.setIfInBounds_toArray, List.set_cons_zero, List.set_cons_succ]
                            try simp only [f1, f2]
                          refine StepsG.cons (some 196) rfl rfl (fun y wx D hg hF hno K hK => ?_) ?_
                          · skip
                            simp only [acts, Act.put, List.getD_cons_zero, List.getD_cons_succ, List.setIfInBounds_toArray, List.set_cons_zero, List.set_cons_succ]
                            go_simp
                            refine hK.out _ _ (afterG_mk (.pointer (some ⟨gA, 0, none⟩)) ?_ rfl (by simpa using hg))
                            simp only [acts, Act.put, List.getD_cons_zero, List.getD_cons_succ, List.setIfInBounds_toArray, List.set_cons_zero, List.set_cons_succ]
                          refine StepsG.cons none rfl rfl (fun y wx D hg hF hno K hK => ?_) ?_
                          · skip
                            have f1 : y 18 = .pointer (some ⟨gA, 0, none⟩) := (hF 18 (by kernel_rfl)).2
                            have f2 : y 7 = .int .i64 (ag.pr + x.pr + x.pp) := (hF 7 (by kernel_rfl)).2
                            have c0 := hg.agg.cell 0 _ rfl
                            have f0 := hg.agg.frozen 0
                            simp only [acts, Act.put, List.getD_cons_zero, List.getD_cons_succ, List.setIfInBounds_toArray, List.set_cons_zero, List.set_cons_succ]
                            go_simp
                            refine hK.out _ _ (afterG_mk undef ?_ trivial ?_)
                            · skip
                              simp only [acts, Act.put, List.getD_cons_zero, List.getD_cons_succ, List.setIfInBounds_toArray, List.set_cons_zero, List.set_cons_succ]
                              try simp only [f1, f2]
                            · have hs := hg.add NN.out 0 (.int .i64 (ag.pr + x.pr + x.pp)) ⟨(ag.pr + x.pr + x.pp), if D 21 then ag.it + x.it else ag.it, ag.ls + lz, if D 23 then ag.rc + x.rc else ag.rc⟩ rfl
                              simpa using hs
                          refine StepsG.cons (some 197) rfl rfl (fun y wx D hg hF hno K hK => ?_) ?_
                          · skip
                            simp only [acts, Act.put, List.getD_cons_zero, List.getD_cons_succ, List.setIfInBounds_toArray, List.set_cons_zero, List.set_cons_succ]
                            go_simp
                            refine hK.out _ _ (afterG_mk (.pointer (some ⟨gA, 1, none⟩)) ?_ rfl (by simpa using hg))
                            simp only [acts, Act.put, List.getD_cons_zero, List.getD_cons_succ, List.setIfInBounds_toArray, List.set_cons_zero, List.set_cons_succ]
                          refine StepsG.cons none rfl rfl (fun y wx D hg hF hno K hK => ?_) ?_
                          · skip
                            have f1 : y 20 = .pointer (some ⟨gA, 1, none⟩) := (hF 20 (by kernel_rfl)).2
                            have f2 : y 12 = .int .i64 (ag.it + x.it) := (hF 12 (by kernel_rfl)).2
                            have c0 := hg.agg.cell 1 _ rfl
                            have f0 := hg.agg.frozen 1
                            simp only [acts, Act.put, List.getD_cons_zero, List.getD_cons_succ, List.setIfInBounds_toArray, List.set_cons_zero, List.set_cons_succ]
                            go_simp
                            refine hK.out _ _ (afterG_mk undef ?_ trivial ?_)
                            · skip
                              simp only [acts, Act.put, List.getD_cons_zero, List.getD_cons_succ, List.setIfInBounds_toArray, List.set_cons_zero, List.set_cons_succ]
                              try simp only [f1, f2]
                            · have hs := hg.add NN.out 1 (.int .i64 (ag.it + x.it)) ⟨if D 19 then ag.pr + x.pr + x.pp else ag.pr, (ag.it + x.it), ag.ls + lz, if D 23 then ag.rc + x.rc else ag.rc⟩ rfl
                              simpa using hs
                          refine StepsG.cons (some 198) rfl rfl (fun y wx D hg hF hno K hK => ?_) ?_
                          · skip
                            simp only [acts, Act.put, List.getD_cons_zero, List.getD_cons_succ, List.setIfInBounds_toArray, List.set_cons_zero, List.set_cons_succ]
                            go_simp
                            refine hK.out _ _ (afterG_mk (.pointer (some ⟨gA, 3, none⟩)) ?_ rfl (by simpa using hg))
                            simp only [acts, Act.put, List.getD_cons_zero, List.getD_cons_succ, List.setIfInBounds_toArray, List.set_cons_zero, List.set_cons_succ]
                          refine StepsG.cons none rfl rfl (fun y wx D hg hF hno K hK => ?_) ?_
                          · skip
                            have f1 : y 22 = .pointer (some ⟨gA, 3, none⟩) := (hF 22 (by kernel_rfl)).2
                            have f2 : y 17 = .int .i64 (ag.rc + x.rc) := (hF 17 (by kernel_rfl)).2
                            have c0 := hg.agg.cell 3 _ rfl
                            have f0 := hg.agg.frozen 3
                            simp only [acts, Act.put, List.getD_cons_zero, List.getD_cons_succ, List.setIfInBounds_toArray, List.set_cons_zero, List.set_cons_succ]
                            go_simp
                            refine hK.out _ _ (afterG_mk undef ?_ trivial ?_)
                            · skip
                              simp only [acts, Act.put, List.getD_cons_zero, List.getD_cons_succ, List.setIfInBounds_toArray, List.set_cons_zero, List.set_cons_succ]
                              try simp only [f1, f2]
                            · have hs := hg.add NN.out 3 (.int .i64 (ag.rc + x.rc)) ⟨if D 19 then ag.pr + x.pr + x.pp else ag.pr, if D 21 then ag.it + x.it else ag.it, ag.ls + lz, (ag.rc + x.rc)⟩ rfl
                              simpa using hs
                          exact StepsG.nil
                        · intro y wx _ hg
                          simp only [acts, Act.put, List.getD_cons_zero, List.getD_cons_succ, List.setIfInBounds_toArray, List.set_cons_zero, List.set_cons_succ]
                          have hT : AppT w wx gR gA gL gV capV m j q oo ⟨ag.pr + x.pr + x.pp, ag.it + x.it, ag.ls + lz, ag.rc + x.rc⟩ x := by simpa using hg
                          have hmay : mayP o x = true := by
                            unfold mayP
                            rw [HC.out, HLO.out]
                            simp [HG1.out, g2]
                          have HO2 : Hid (AppO w wx gR gA m (.slice (some ⟨gV, 0, none⟩) m capV) B (k + 1) (q.set j (doP o x)) (ag.plus (aggP o x))) := by
                            obtain ⟨k1, k2, k3⟩ := HWF.out
                            refine ⟨hT.below, all_set k1 (doP_wf hof hok hmay), by rw [List.length_set]; exact NN.out.len, ?_, k3.set HAT.out.2 rfl, hT.res, ?_, by rw [HO.out]; exact hT.own⟩
                            · have := k2.plus (aggP_bd hof hB hok hmay)
                              have e : ((k + 1 : Nat) : Int) * 2199023255552 = (k : Int) * 2199023255552 + 2199023255552 := by omega
                              rw [e]
                              exact this
                            · have h := hT.agg
                              rw [HAG.out]
                              have e : ag.plus ⟨x.pr + x.pp, x.it, lz, x.rc⟩ = ⟨ag.pr + x.pr + x.pp, ag.it + x.it, ag.ls + lz, ag.rc + x.rc⟩ := by
                                simp only [AggP.plus, Int.add_assoc]
                              rw [e]
                              exact h
                          clear hT hg
                          go_wp2
                          go_roundw
                          case rel => exact ⟨k + 1, q.set j (doP o x), ag.plus (aggP o x), by omega, by go_num, by rw [← restP_yes HAT.out.1 HAT.out.2 hmay]; exact HS2.out, HO2.out⟩
                          case measure => simp [intOf]; omega
                  · skip
                    as_aux_lemma =>
                      have HG2 : Hid (¬ x.rc ≤ lo) := g2
                      go_upto_region 26 with fail
                      go_quiet (fail)
                      go_upto_region 27 with fail
                      refine wp_letter (fun wx => AppT w wx gR gA gL gV capV m j q ⟨o.id, b', lo, o.late, vv⟩ ⟨ag.pr, ag.it, ag.ls + lz, ag.rc⟩ x) (HX4.out.drews _) ?_
                      clear HX4 f1 f2 f3 f4 c0 c1 c2 c3 c4 s0 s1 s2 s3 l0 l1 l2 l3 l4 l5 l6 fa0 fa1 fa2 fa3
                      intro X5 hT
                      have bR := hT.res
                      have r0 := bR.cell 0 _ rfl; have r1 := bR.cell 1 _ rfl; have r2 := bR.cell 2 _ rfl; have r3 := bR.cell 3 _ rfl
                      have rf0 := bR.frozen 0; have rf1 := bR.frozen 1; have rf2 := bR.frozen 2; have rf3 := bR.frozen 3
                      go_wp2
                      exact ref_refuse hT.below hR bR _ rfl rfl rfl (by rw [HF.out, ← HS2.out, restP_no HAT.out.1 HAT.out.2 (by have := HG2.out; unfold mayP; rw [HLO.out]; simp; omega)])
              · skip
                as_aux_lemma =>
                  have w1 : IntKind.i64.wrap (x.pr + x.pp) = x.pr + x.pp := wrap_in _ (by omega) (by omega)
                  have HG : Hid (¬ x.pr + x.pp ≤ o.bal) := g1
                  go_upto_region 20 with fail
                  go_quiet (fail)
                  go_upto_region 21 with fail
                  refine wp_letter (fun wx => AppT w wx gR gA gL gV capV m j q o ag x) (HX2.out.drews _) ?_
                  clear HX2 f1 f2 f3 f4 c0 c1 c2 c3 c4 s0 s1 s2 s3 l0 l1 l2 l3 l4 l5 l6 r0 r1 r2 r3 rf0 rf1 rf2 rf3
                  intro X3 hT
                  have bR := hT.res
                  have r0 := bR.cell 0 _ rfl; have r1 := bR.cell 1 _ rfl; have r2 := bR.cell 2 _ rfl; have r3 := bR.cell 3 _ rfl
                  have rf0 := bR.frozen 0; have rf1 := bR.frozen 1; have rf2 := bR.frozen 2; have rf3 := bR.frozen 3
                  go_wp2
                  exact ref_refuse hT.below hR bR _ rfl rfl rfl (by rw [HF.out, ← HS2.out, restP_no HAT.out.1 HAT.out.2 (by have := HG.out; unfold mayP; simp; omega)])
    · obtain rfl : k = n := by omega
      as_aux_lemma =>
        have e : xs.drop k = [] := List.drop_eq_nil_of_le (by have := HN.out; omega)
        have HE : Hid (applyP p xs = some (q, ag)) := by
          show _ = _
          rw [HF.out, ← HS.out, e, restP_nil]
        have bR := hI.res
        have f0 := bR.frozen 0; have f1 := bR.frozen 1; have f2 := bR.frozen 2; have f3 := bR.frozen 3
        have r0 := bR.cell 0 _ rfl; have r1 := bR.cell 1 _ rfl; have r2 := bR.cell 2 _ rfl; have r3 := bR.cell 3 _ rfl
        have y0 := hI.agg.cell 0 _ rfl; have y1 := hI.agg.cell 1 _ rfl; have y2 := hI.agg.cell 2 _ rfl; have y3 := hI.agg.cell 3 _ rfl
        clear HS e
        go_wp2
        go_region
        go_wp2
        exact ref_done (S := fun q a => applyP p xs = some (q, a)) hI.below hI.res hI.own hI.len hR hRA (fun e => hvR gR e rfl) _ rfl rfl rfl HE.out _ rfl
end Go.Proofs.Ytoijgognbfifbaa
