/-
  The walk of PoolPlays.
-/
import Derived.Test.YtoijgognbfifbaaPoolRunsWalk
import Derived.Test.YtoijgognbfifbaaKeepP
import Derived.Test.YtoijgognbfifbaaTwoRow
import Derived.Test.YtoijgognbfifbaaBookLine
import Derived.Test.YtoijgognbfifbaaRefApply
import Derived.Test.YtoijgognbfifbaaPoolSame
namespace Go.Proofs.Ytoijgognbfifbaa
open Go.RowKit

/-- Whatever a tape does to such a pool, it stays one. -/
theorem QOk.apply {q q' : List LoanP} {t : List LineT} {g : AggP} (h : QOk q) (hr : applyP q t = some (q', g)) : QOk q' := by
  unfold applyP at hr
  split at hr
  · rename_i hT
    have hk : ∀ x ∈ t, x.ok = true := rightFrom_ok 0 t (by
      unfold rightT at hT
      simp only [Bool.and_eq_true] at hT
      exact hT.2)
    obtain ⟨k1, k2, k3, k4⟩ := runP_sums 100000 _ _ _ _ hk h.wf hr
    have hlen : q'.length = q.length := by
      have := congrArg List.length k4
      simpa using this
    refine ⟨by rw [hlen]; exact h.len, k1, risesP_ids _ _ _ k4.symm h.rises, fun o ho => ?_⟩
    have : o.id ∈ q.map LoanP.id := by
      rw [← k4]
      exact List.mem_map.2 ⟨o, ho, rfl⟩
    obtain ⟨y, hy, e⟩ := List.mem_map.1 this
    rw [← e]
    exact h.ids y hy
  · cases hr
theorem risesP_gt : ∀ (q : List LoanP) (a : Int), risesP a q → ∀ o ∈ q, a < o.id
  | [], _, _, o, h => by simp at h
  | y :: r, a, h, o, ho => by
    rcases List.mem_cons.1 ho with rfl | ho
    · exact h.1
    · have := risesP_gt r y.id h.2 o ho
      have := h.1
      omega
theorem risesP_uniq : ∀ (q : List LoanP) (a : Int), risesP a q → Uniq q
  | [], _, _ => fun i j o y h => by simp at h
  | z :: r, a, h => fun i j o y ho hy e => by
    cases i with
    | zero =>
      cases j with
      | zero => rfl
      | succ j =>
        simp at ho hy
        subst ho
        have := risesP_gt r _ h.2 y (mem_at hy)
        omega
    | succ i =>
      cases j with
      | zero =>
        simp at ho hy
        subst hy
        have := risesP_gt r _ h.2 o (mem_at ho)
        omega
      | succ j =>
        simp at ho hy
        rw [risesP_uniq r _ h.2 i j o y ho hy e]
/-- The pool, and the loans that the document tells of it. -/
structure PlM (w wx : World) (g : Nat) (lv : Value) (q : List LoanP) : Prop where
  m : OvM w wx g q
  l : Lies 5 LoanP.f wx lv q
  ap : lv.ownBlock ≠ some g
theorem PlM.then {w wx wy : World} {g : Nat} {lv : Value} {q : List LoanP} (h : PlM w wx g lv q) (k : Below wx.heap.size wx wy) : PlM w wy g lv q := ⟨h.m.then k, h.l.below k, h.ap⟩
/-- A tape that is to be done. -/
structure TpM (wx : World) (g : Nat) (tv : Value) (t : List LineT) : Prop where
  l : Lies 7 LineT.f wx tv t
  len : t.length ≤ 12
  ap : tv.ownBlock ≠ some g
theorem TpM.then {wx wy : World} {g : Nat} {tv : Value} {t : List LineT} (h : TpM wx g tv t) (k : Below wx.heap.size wx wy) : TpM wy g tv t := ⟨h.l.below k, h.len, h.ap⟩
theorem TpM.of_own {wx : World} {base g : Nat} {e : TypeId} {tv : Value} {t : List LineT} {m : Nat} (h : wx.ownsRow base e 7 tv m (t.flatMap LineT.f)) (hm : t.length = m) (hl : t.length ≤ 12) (hg : g < base) : TpM wx g tv t :=
  ⟨own_lies LineT.len h hm, hl, fun e => by have := (h.lt g e).1; omega⟩
theorem lies_blk {α : Type} {m n cap g : Nat} {f : α → List Value} {w : World} {t : TypeId} {xs : List α} (hl : ∀ x, (f x).length = m) (h : Blk w g t (xs.flatMap f)) (hn : xs.length = n) (hc : n ≤ cap) (hm : cap ≤ maxLen) : Lies m f w (.slice (some ⟨g, 0, none⟩) n cap) xs := by
  refine ⟨_, cap, by rw [hn], by omega, hm, by simp, Or.inr ⟨g, 0, rfl, fun i x hi j u hj => ?_⟩⟩
  have hjm : j < m := by rw [← hl x]; exact (List.getElem?_eq_some_iff.1 hj).1
  have := h.cell (i * m + j) u (by rw [flat_at hl xs i j x hi hjm]; exact hj)
  rw [Nat.zero_add]
  exact this
/-- The mark. -/
def mkL : LineT := ⟨9, 0, 0, 0, 0, 0, false⟩
theorem fullL_length (t : List LineT) : (fullL t mkL).length = t.length + 80 := by simp [fullL]
/-- All that is held from the tape's copy on: the pool, what the document tells, the tape, its copy. -/
structure AllM (w wx : World) (g : Nat) (p : List LoanP) (lv : Value) (q : List LoanP) (tv : Value) (t : List LineT) (G m : Nat) : Prop where
  pm : OvM w wx g p
  ld : Lies 5 LoanP.f wx lv q
  ap : lv.ownBlock ≠ some g
  tp : TpM wx g tv t
  fl : Lies 7 LineT.f wx (.slice (some ⟨G, 0, none⟩) (m + 80) (m + 80)) (fullL t mkL)
  ng : G ≠ g
theorem AllM.then {w wx wy : World} {g G m : Nat} {lv tv : Value} {p q : List LoanP} {t : List LineT} (h : AllM w wx g p lv q tv t G m) (k : Below wx.heap.size wx wy) : AllM w wy g p lv q tv t G m := ⟨h.pm.then k, h.ld.below k, h.ap, h.tp.then k, h.fl.below k, h.ng⟩
theorem AllM.on {w wx wy : World} {g G m : Nat} {lv tv : Value} {p p' q : List LoanP} {t : List LineT} (h : AllM w wx g p lv q tv t G m) (k : Rest g wx wy) (hq : PoolM wy g p') : AllM w wy g p' lv q tv t G m :=
  ⟨h.pm.on k hq, h.ld.rest k h.ap, h.ap, ⟨h.tp.l.rest k h.tp.ap, h.tp.len, h.tp.ap⟩, h.fl.rest k (fun e => h.ng (by simpa [Value.ownBlock] using e)), h.ng⟩
theorem arg_lines {w : World} {v : Value} (h : Arg w (.slice 7 (.struct (.cons 1 (.int .i64) (.cons 1 (.int .i64) (.cons 1 (.int .i64) (.cons 1 (.int .i64) (.cons 1 (.int .i64) (.cons 1 (.int .i64) (.cons 1 .bool .nil))))))))) v) : ∃ rs : List LineT, Lies 7 LineT.f w v rs := by
  obtain ⟨rs, hr, _⟩ := holds_list LineT.f (fun _ => True) (fun cs hc => by
    obtain ⟨_, _, rfl, _, ⟨a, rfl, _⟩, _, _, rfl, _, ⟨b, rfl, _⟩, _, _, rfl, _, ⟨c, rfl, _⟩, _, _, rfl, _, ⟨d, rfl, _⟩, _, _, rfl, _, ⟨e, rfl, _⟩, _, _, rfl, _, ⟨f, rfl, _⟩, _, _, rfl, _, ⟨x, rfl⟩, rfl⟩ := hc
    exact ⟨⟨a, b, c, d, e, f, x⟩, rfl, trivial⟩) h
  exact ⟨rs, hr⟩

set_option maxRecDepth 1000000 in
set_option maxHeartbeats 8000000 in
theorem poolPlays_any (v0 v1 v2 : Value) (zs : List Int) (nt : Nat) (rs : List LineT) (n0 : Int) (w : World) (h0 : Lies 1 intF w v0 zs) (h1 : TapesIn w v1 nt) (h2 : Lies 7 LineT.f w v2 rs) :
    Calls Try.prog 4 #[v0, v1, v2, .int .i64 n0] w fun e w' => e = .returned (.bool true) ∧ Below w.heap.size w w' := by
  obtain ⟨j0, hj, hj0, hj1, hj2⟩ := info_parts Try.info_ln
  obtain ⟨i0, hi, hz0, hz1, hz2⟩ := info_parts Try.info_int
  obtain ⟨l0, hl, hl0, hl1, hl2⟩ := info_parts Try.info_line
  obtain ⟨ta, tc, rfl, hnt, htape⟩ := h1
  have hm : nt ≤ 9223372036854775807 := by unfold maxLen at *; omega
  have HT : Hid (∀ i, i < nt → ∃ b off s0 s1 s2 s3 s4 s5, ta = some ⟨b, off, none⟩ ∧ w.cell? ⟨b, off + i * 6, none⟩ = some s0 ∧ w.cell? ⟨b, off + i * 6 + 1, none⟩ = some s1 ∧ w.cell? ⟨b, off + i * 6 + 2, none⟩ = some s2 ∧ w.cell? ⟨b, off + i * 6 + 3, none⟩ = some s3 ∧ w.cell? ⟨b, off + i * 6 + 4, none⟩ = some s4 ∧ w.cell? ⟨b, off + i * 6 + 5, none⟩ = some s5 ∧ TapeIn w (.agg #[s0, s1, s2, s3, s4, s5])) := htape
  obtain ⟨aR, cR, rfl, hR1, hR2, _, _⟩ := id h2
  obtain ⟨nR, enR⟩ : ∃ n, rs.length = n := ⟨_, rfl⟩
  rw [enR] at h2 hR1 ⊢
  have HR : Hid (Lies 7 LineT.f w (.slice aR nR cR) rs ∧ rs.length = nR) := ⟨h2, enR⟩
  have hmR : nR ≤ 9223372036854775807 := by unfold maxLen at *; omega
  have hmC : cR ≤ 9223372036854775807 := by unfold maxLen at *; omega
  clear htape hnt h2 enR hR2
  go_enter Try.func4, Try.ntmps4
  go_upto_region 2 with (go_at_call 11; refine (loansK_any v0 zs _ h0).mono ?_; rintro e w1 ⟨vl, kk, xs, rfl, hkk, hX, hO, d1⟩)
  have LX : Hid (Lies 2 LnT.f w1 vl xs) := own_lies LnT.len hO hX.len
  have QX : Hid (QOk (xs.map LnT.begin)) := hX.q hkk
  have hxl : xs.length ≤ 1000 := by rw [hX.len]; omega
  go_upto_region 3 with (first
    | (go_at_call 7; refine (new_any vl xs _ LX.out hxl).mono ?_; rintro e w2 ⟨g, rfl, hg, d2, hP⟩)
    | (go_at_call 12; refine (refBegin_any vl xs _ (LX.out.below d2) hxl).mono ?_; rintro e w3 ⟨lv, rfl, ol, d3⟩))
  have hgw2 : g < w2.heap.size := hP.lt
  have M0 : Hid (PlM w w3 g lv (xs.map LnT.begin)) := ⟨⟨below_then d1 (below_then d2 d3), Nat.le_trans d1.size hg, hP.below d3⟩, own_lies LoanP.len ol (by rw [List.length_map]), fun e => by have := (ol.lt g e).1; omega⟩
  clear LX hX hO d1 d2 d3 hP hg hxl hkk ol hgw2
  generalize xs.map LnT.begin = q0 at M0 QX
  go_wp2
  go_loopw [11, 12] (fun lw i wr => ∃ (k : Nat) (q : List LoanP), k ≤ 8 ∧ i = .int .i64 k ∧ QOk q ∧ PlM w wr g lw q) (fun _ i _ => 8 - (intOf i).toNat)
  case atStart => exact ⟨0, q0, by omega, rfl, QX.out, M0.out⟩
  case round =>
  clear M0 QX
  obtain ⟨k, q, hk, rfl, hQ, hM⟩ := hrel
  have HQ : Hid (QOk q) := hQ
  have hql : q.length ≤ 10 := hQ.len
  have HM : Hid (PlM w wr g u11 q) := hM
  clear hM hQ
  by_cases g1 : k < nt
  · by_cases g2 : k < 8
    · obtain ⟨tb, toff, s0, s1, s2, s3, s4, s5, rfl, t0, t1, t2, t3, t4, t5, hti⟩ := HT.out k g1
      have HTI : Hid (TapeIn w (.agg #[s0, s1, s2, s3, s4, s5])) := hti
      have CT : Hid (∀ wx, Below w.heap.size w wx → wx.cell? ⟨tb, toff + k * 6, none⟩ = some s0 ∧ wx.cell? ⟨tb, toff + k * 6 + 1, none⟩ = some s1 ∧ wx.cell? ⟨tb, toff + k * 6 + 2, none⟩ = some s2 ∧ wx.cell? ⟨tb, toff + k * 6 + 3, none⟩ = some s3 ∧ wx.cell? ⟨tb, toff + k * 6 + 4, none⟩ = some s4 ∧ wx.cell? ⟨tb, toff + k * 6 + 5, none⟩ = some s5) := fun wx bx => ⟨cell_keep bx t0, cell_keep bx t1, cell_keep bx t2, cell_keep bx t3, cell_keep bx t4, cell_keep bx t5⟩
      clear hti t0 t1 t2 t3 t4 t5
      obtain ⟨n, en⟩ : ∃ n, q.length = n := ⟨_, rfl⟩
      have HN : Hid (q.length = n) := en
      obtain ⟨aL, cL, rfl⟩ : ∃ a c, u11 = .slice a n c := by
        obtain ⟨a, c, e, _⟩ := HM.out.l
        rw [en] at e
        exact ⟨a, c, e⟩
      rw [en] at hql
      have hn64 : n ≤ 9223372036854775807 := by omega
      have hgw : g < wr.heap.size := HM.out.m.pool.lt
      clear en
      go_upto_block 2 with fail
      go_cut [13] (fun tv wx => ∃ t, TpM wx g tv t ∧ PlM w wx g (.slice aL n cL) q)
      case first =>
        go_upto_region 18 with fail
        go_cut [69] (fun c wx => (∃ bb, c = .bool bb) ∧ wx = wr)
        case first =>
          go_wp2_with fail
          go_meet
          case rel => exact ⟨⟨_, rfl⟩, rfl⟩
        case rest =>
        obtain ⟨⟨ba, rfl⟩, ewr⟩ := hcut
        obtain rfl := ewr.symm
        cases ba with
        | true =>
          as_aux_lemma =>
            obtain ⟨mm, hmm, e1⟩ : ∃ mm : Nat, mm ≤ nR ∧ mm = min nR 6 := ⟨min nR 6, Nat.min_le_left _ _, rfl⟩
            have hm6 : mm ≤ 6 := by omega
            have hmm2 : (mm : Int) ≤ (cR : Int) := by omega
            have e2 : min (nR : Int) 6 = (mm : Int) := by omega
            have e3 : (if (6 : Int) < (nR : Int) then (6 : Int) else (nR : Int)) = (mm : Int) := by split <;> omega
            have e4 : (if (nR : Int) < 6 then (nR : Int) else (6 : Int)) = (mm : Int) := by split <;> omega
            have LR : Hid (Lies 7 LineT.f wr (.slice aR mm cR) (rs.take mm)) := (HR.out.1.below HM.out.m.below).take mm hmm
            have hml : (rs.take mm).length = mm := by rw [List.length_take, HR.out.2]; omega
            have SR : Hid (Src wr (.slice aR mm cR) mm ((rs.take mm).flatMap LineT.f)) := by
              have := LR.out.src LineT.len (by omega)
              rw [hml] at this
              exact this
            have FL : Hid (((rs.take mm).flatMap LineT.f).length = mm * 7) := by
              show _ = _
              rw [flat_length LineT.len, hml]
            have OW : Hid (wr.ownsRow wr.heap.size 32 7 (.slice none 0 0) 0 []) := World.ownsRow_nil _ _ _ _
            clear e1
            go_wp2_with (refine wpList_append_src rfl (.tmp 73) (.tmp 78) 33 rfl wr.heap.size 32 l0 (.agg #[.int .i64 0, .int .i64 0, .int .i64 0, .int .i64 0, .int .i64 0, .int .i64 0, .bool false]) 7 56 Try.underlying33 hl hl0 hl1 hl2 rfl (by decide) (.slice none 0 0) 0 [] rfl OW.out (.slice aR mm cR) mm ((rs.take mm).flatMap LineT.f) rfl SR.out FL.out (flat_one LineT.one) (by unfold maxLen; omega) (by omega) (Nat.le_refl _) ?_; intro v' w2 ow gr ob)
            go_meet
            case rel =>
              rw [Nat.zero_add, List.nil_append] at ow
              exact ⟨rs.take mm, TpM.of_own ow hml (by omega) hgw, HM.out.then (below_grown (Below.refl _ _) gr (fun k hk => by simp [Value.ownBlock] at hk))⟩
        | false =>
          go_upto_region 20 with fail
          go_cut [80] (fun c wx => (∃ bb, c = .bool bb) ∧ wx = wr)
          case first =>
            go_wp2_with fail
            go_meet
            case rel => exact ⟨⟨_, rfl⟩, rfl⟩
          case rest =>
          obtain ⟨⟨bb, rfl⟩, rfl⟩ := hcut
          obtain ⟨t0, t1, t2, t3, t4, t5⟩ := CT.out wc HM.out.m.below
          cases bb with
          | true =>
            go_wp2_with (go_at_call 13; refine (lines_any _ _ (HTI.out.below HM.out.m.below)).mono ?_; rintro e w4 ⟨vt, ys, rfl, hy1, hy2, oy, d4⟩)
            go_meet
            case rel => exact ⟨ys, TpM.of_own oy rfl hy1 hgw, HM.out.then d4⟩
          | false =>
            as_aux_lemma =>
              go_wp2
              go_loopw [14, 15, 44] (fun p r i wx => ∃ j : Nat, j ≤ n ∧ i = .int .i64 j ∧ TwoR wc wx p r j j q) (fun _ _ i _ => n - (intOf i).toNat)
              case atStart => exact ⟨0, Nat.zero_le _, rfl, TwoR.nil _ _⟩
              case round =>
              obtain ⟨j, hjj, rfl, hR⟩ := hrel
              by_cases hjn : j < n
              · obtain ⟨xb, xo, x, rfl, hx, _, x0, x1, x2, x3, x4⟩ := HM.out.l.loan j hjn
                replace x0 := cell_keep hR.below x0
                replace x1 := cell_keep hR.below x1
                replace x2 := cell_keep hR.below x2
                replace x3 := cell_keep hR.below x3
                replace x4 := cell_keep hR.below x4
                have HX : Hid (q[j]? = some x) := hx
                have HR2 : Hid (TwoR wc wr u14 u15 j j q) := hR
                clear hx hR
                go_upto_region 14 with fail
                refine wp_letter (fun wx => ∃ gx, wr.heap.size = gx ∧ Blk wx gx 46 x.f ∧ TwoR wc wx u14 u15 j j q ∧ u14.ownBlock ≠ some gx) ⟨_, rfl, Blk.fresh _ _ _, HR2.out.then (below_alloc (Below.refl _ _) _), fun e => by have := (HR2.out.now.lt _ e).2; omega⟩ ?_
                clear HR2 x0 x1 x2 x3 x4
                rintro X ⟨gx, egx, bx, hR, hgx⟩
                rw [egx]
                clear egx
                have x0 := bx.cell 0 _ rfl; have x1 := bx.cell 1 _ rfl
                have BX : Hid (Blk X gx 46 x.f) := bx
                have HR2 : Hid (TwoR wc (X.alloc (.cells #[.int .i64 x.id, .int .i64 x.bal] 25)) u14 u15 j j q) := hR.then (below_alloc (Below.refl _ _) _)
                clear bx hR
                have SR : Hid (Src (X.alloc (.cells #[.int .i64 x.id, .int .i64 x.bal] 25)) (.slice (some ⟨X.heap.size, 0, none⟩) 1 1) 1 (LnT.f x.ln)) := src_new X _ 1 _
                go_upto_region 15 with ((refine wpList_append_src rfl (.tmp 48) (.tmp 54) 38 rfl wc.heap.size 25 j0 (.agg #[.int .i64 0, .int .i64 0]) 2 16 Try.underlying38 hj hj0 hj1 hj2 rfl (by decide) u14 j (((q.take j).map LoanP.ln).flatMap LnT.f) rfl HR2.out.now (.slice (some ⟨X.heap.size, 0, none⟩) 1 1) 1 (LnT.f x.ln) rfl SR.out rfl (LnT.one _) (by unfold maxLen; omega) (by omega) HR2.out.below.size ?_; intro p' w5 ow gr ob))
                have R5 : Hid (TwoR wc w5 p' u15 (j + 1) j q) := HR2.out.now1 HX.out ow gr ob
                have x2 := ((BX.out.alloc _).same (gr.block gx (by have := BX.out.lt; simp; omega) (fun e => hgx e.symm))).cell 2 _ rfl
                have HR3 : Hid (TwoR wc (w5.alloc (.cells #[.int .i64 x.lost] 3)) p' u15 (j + 1) j q) := R5.out.then (below_alloc (Below.refl _ _) _)
                have SR2 : Hid (Src (w5.alloc (.cells #[.int .i64 x.lost] 3)) (.slice (some ⟨w5.heap.size, 0, none⟩) 1 1) 1 (intF x.lost)) := src_new w5 _ 1 _
                clear ow gr ob x0 x1 HR2 R5 BX SR
                go_upto_region 16 with ((refine wpList_append_src rfl (.tmp 56) (.tmp 59) 36 rfl wc.heap.size 3 i0 (.int .i64 0) 1 8 Try.underlying36 hi hz0 hz1 hz2 rfl (by decide) u15 j (((q.take j).map LoanP.lost).flatMap intF) rfl HR3.out.lost (.slice (some ⟨w5.heap.size, 0, none⟩) 1 1) 1 (intF x.lost) rfl SR2.out rfl (intF_one _) (by unfold maxLen; omega) (by omega) HR3.out.below.size ?_; intro r' w6 ow gr ob))
                have R6 : Hid (TwoR wc w6 p' r' (j + 1) (j + 1) q) := HR3.out.lost1 HX.out ow gr ob
                clear ow gr ob HR3 SR2 x2
                go_wp2
                go_roundw
                case rel => exact ⟨j + 1, by omega, by go_num, R6.out⟩
                case measure => simp [intOf]; omega
              · obtain rfl : j = n := by omega
                have HR2 : Hid (TwoR wc wr u14 u15 j j q) := hR
                obtain ⟨W5, eW5⟩ : ∃ W5, W5 = wr := ⟨_, rfl⟩
                subst eW5
                clear hR
                have htk : q.take j = q := by rw [← HN.out]; exact List.take_length
                have LN : Hid (Lies 2 LnT.f W5 u14 (q.map LoanP.ln)) := own_lies LnT.len (by have := HR2.out.now; rw [htk] at this; exact this) (by rw [List.length_map]; exact HN.out)
                have LL : Hid (Lies 1 intF W5 u15 (q.map LoanP.lost)) := own_lies intF_len (by have := HR2.out.lost; rw [htk] at this; exact this) (by rw [List.length_map]; exact HN.out)
                have M5 : Hid (PlM w W5 g (.slice aL j cL) q) := HM.out.then HR2.out.below
                have hg5 : g < W5.heap.size := Nat.lt_of_lt_of_le hgw HR2.out.below.size
                obtain ⟨t0, t1, t2, t3, t4, t5⟩ := CT.out W5 M5.out.m.below
                clear HR2 htk
                go_wp2_with (go_at_call 14; refine (of_any _ u14 u15 q W5 100000 (HTI.out.below M5.out.m.below) LN.out LL.out HQ.out.wf (by decide) (by have := HN.out; omega)).mono ?_; rintro e w7 ⟨vt, ls, rfl, hls, ot, d7⟩)
                go_meet
                case rel => exact ⟨theLines ls, TpM.of_own ot rfl (by have := linesFor_length hls; have := HN.out; omega) hg5, M5.out.then d7⟩
      case rest =>
        obtain ⟨t, hT, hM2⟩ := hcut
        obtain ⟨m, em⟩ : ∃ m, t.length = m := ⟨_, rfl⟩
        have HTM : Hid (t.length = m) := em
        have hm12 : m ≤ 12 := by have := hT.len; omega
        obtain ⟨aT, cT, rfl⟩ : ∃ a c, u13 = .slice a m c := by
          obtain ⟨a, c, e, _⟩ := hT.l
          rw [em] at e
          exact ⟨a, c, e⟩
        have HT2 : Hid (TpM wc g (.slice aT m cT) t) := hT
        have HM2 : Hid (PlM w wc g (.slice aL n cL) q) := hM2
        clear hT hM2 em HM CT HTI
        go_upto_region 23 with (go_at_call 15; refine (roomyL_any _ t ⟨9, 0, 0, 0, 0, 0, false⟩ _ HT2.out.l (by have := HTM.out; omega)).mono ?_; rintro e w5 ⟨G, rfl, hG1, hG2, bG, d5⟩; rw [HTM.out])
        have hgG : G ≠ g := by have := HM2.out.m.pool.lt; omega
        have HA : Hid (AllM w w5 g q (.slice aL n cL) q (.slice aT m cT) t G m) := ⟨HM2.out.m.then d5, HM2.out.l.below d5, HM2.out.ap, HT2.out.then d5, lies_blk LineT.len bG (by rw [fullL_length, HTM.out]) (Nat.le_refl _) (by unfold maxLen; omega), hgG⟩
        clear bG d5 hG1 hG2 HT2 HM2 hgG
        obtain ⟨aF, cF, eF⟩ : ∃ a c : Nat, a = m ∧ c = m + 80 := ⟨_, _, rfl, rfl⟩
        clear eF aF cF
        have HQU : Hid (Uniq q) := risesP_uniq q 0 HQ.out.rises
        cases hap : applyP q t with
        | none =>
          as_aux_lemma =>
            have HAP : Hid (applyP q t = none) := hap
            obtain ⟨A, eA⟩ : ∃ A, AggP.zero = A := ⟨_, rfl⟩
            have EA : Hid (AggP.zero = A) := eA
            clear hap eA
            go_upto_region 24 with (go_at_call 8; refine (apply_any g q _ t _ 100000 HA.out.pm.pool (by have h := HA.out.fl.take m (by omega); unfold fullL at h; rw [← HTM.out, List.take_left, HTM.out] at h; exact h) HQ.out.wf (by decide) (by have := HN.out; omega)).mono ?_; rintro e w6 (⟨_, rfl, d6⟩ | ⟨_, _, h6, _⟩); rotate_left; (exact absurd h6 (by rw [HAP.out]; simp)); rw [EA.out]; unfold AggP.v)
            refine wp_letter (fun wx => ∃ ga, w6.heap.size = ga ∧ Blk wx ga 27 A.f ∧ AllM w wx g q (.slice aL n cL) q (.slice aT m cT) t G m) ⟨_, rfl, Blk.fresh _ _ A.f, (HA.out.then d6).then (below_alloc (Below.refl _ _) _)⟩ ?_
            clear d6 HA
            rintro X6 ⟨ga, ega, bA, h6⟩
            rw [ega]
            have H6 : Hid (AllM w X6 g q (.slice aL n cL) q (.slice aT m cT) t G m) := h6
            have BA : Hid (Blk X6 ga 27 A.f) := bA
            clear ega bA h6
            go_upto_region 25 with (go_at_call 16; refine (refApply_any _ _ q t _ 100000 H6.out.ld H6.out.tp.l HQ.out.wf (by decide) (by have := HN.out; omega) HQU.out).mono ?_; rintro e w7 (⟨_, rfl, d7⟩ | ⟨_, _, _, h7, _⟩); rotate_left; (exact absurd h7 (by rw [HAP.out]; simp)); rw [EA.out]; unfold AggP.v)
            refine wp_letter (fun wx => ∃ gc, w7.heap.size = gc ∧ Blk wx gc 49 A.f ∧ Blk wx ga 27 A.f ∧ AllM w wx g q (.slice aL n cL) q (.slice aT m cT) t G m) ⟨_, rfl, Blk.fresh _ _ A.f, (BA.out.then d7).alloc _, (H6.out.then d7).then (below_alloc (Below.refl _ _) _)⟩ ?_
            clear d7 H6 BA
            rintro X7 ⟨gc, egc, bC, bA, h7⟩
            rw [egc]
            have H7 : Hid (AllM w X7 g q (.slice aL n cL) q (.slice aT m cT) t G m) := h7
            have c0 := bC.cell 0 _ rfl; have c1 := bC.cell 1 _ rfl; have c2 := bC.cell 2 _ rfl; have c3 := bC.cell 3 _ rfl
            have z0 := bA.cell 0 _ rfl; have z1 := bA.cell 1 _ rfl; have z2 := bA.cell 2 _ rfl; have z3 := bA.cell 3 _ rfl
            clear egc bC bA h7
            go_upto_region 27 with (go_at_call 17; refine (intactL_any G m (m + 80) _ t ⟨9, 0, 0, 0, 0, 0, false⟩ _ HTM.out (by omega) H7.out.fl H7.out.tp.l).mono ?_; rintro e w8 ⟨rfl, d8⟩)
            have H8 : Hid (AllM w w8 g q (.slice aL n cL) q (.slice aT m cT) t G m) := H7.out.then d8
            clear c0 c1 c2 c3 z0 z1 z2 z3 H7 d8
            go_wp2_with (go_at_call 18; refine (same_any g _ q _ H8.out.pm.pool H8.out.ld HQ.out.wf (by have := HN.out; omega)).mono ?_; rintro e w9 ⟨rfl, d9⟩)
            go_roundw
            case rel => exact ⟨k + 1, q, by omega, by go_num, HQ.out, (H8.out.then d9).pm, (H8.out.then d9).ld, H8.out.ap⟩
            case measure => simp [intOf]; omega
        | some r =>
          obtain ⟨q', A⟩ := r
          have HAP : Hid (applyP q t = some (q', A)) := hap
          have HQ2 : Hid (QOk q') := HQ.out.apply hap
          clear hap
          go_upto_region 24 with (go_at_call 8; refine (apply_any g q _ t _ 100000 HA.out.pm.pool (by have h := HA.out.fl.take m (by omega); unfold fullL at h; rw [← HTM.out, List.take_left, HTM.out] at h; exact h) HQ.out.wf (by decide) (by have := HN.out; omega)).mono ?_; rintro e w6 (⟨h6, _, _⟩ | ⟨q6, a6, h6, rfl, d6, hp6, _⟩); (exact absurd h6 (by rw [HAP.out]; simp)); (have e6 : q6 = q' ∧ a6 = A := (by rw [HAP.out] at h6; simpa using h6.symm)); (rw [e6.1] at hp6); (rw [e6.2]); unfold AggP.v)
          refine wp_letter (fun wx => ∃ ga, w6.heap.size = ga ∧ Blk wx ga 27 A.f ∧ AllM w wx g q' (.slice aL n cL) q (.slice aT m cT) t G m) ⟨_, rfl, Blk.fresh _ _ A.f, (HA.out.on d6 hp6).then (below_alloc (Below.refl _ _) _)⟩ ?_
          clear d6 hp6 h6 e6 HA
          rintro X6 ⟨ga, ega, bA, h6⟩
          rw [ega]
          have H6 : Hid (AllM w X6 g q' (.slice aL n cL) q (.slice aT m cT) t G m) := h6
          have BA : Hid (Blk X6 ga 27 A.f) := bA
          clear ega bA h6
          go_upto_region 25 with (go_at_call 16; refine (refApply_any _ _ q t _ 100000 H6.out.ld H6.out.tp.l HQ.out.wf (by decide) (by have := HN.out; omega) HQU.out).mono ?_; rintro e w7 (⟨h7, _, _⟩ | ⟨q7, a7, v7, h7, rfl, o7, d7⟩); (exact absurd h7 (by rw [HAP.out]; simp)); (have e7 : q7 = q' ∧ a7 = A := (by rw [HAP.out] at h7; simpa using h7.symm)); (rw [e7.1] at o7); (rw [e7.2]); unfold AggP.v)
          have hg6 : g < X6.heap.size := H6.out.pm.pool.lt
          obtain ⟨n', en'⟩ : ∃ n, q'.length = n := ⟨_, rfl⟩
          have HN' : Hid (q'.length = n') := en'
          rw [en'] at o7
          obtain ⟨aL', cL', rfl⟩ := own_slice o7
          refine wp_letter (fun wx => ∃ gc, w7.heap.size = gc ∧ Blk wx gc 49 A.f ∧ Blk wx ga 27 A.f ∧ AllM w wx g q' (.slice aL' n' cL') q' (.slice aT m cT) t G m) (by
            have h := (H6.out.then d7).then (below_alloc (Below.refl _ _) (.cells #[.int .i64 A.pr, .int .i64 A.it, .int .i64 A.ls, .int .i64 A.rc] 49))
            exact ⟨_, rfl, Blk.fresh _ _ A.f, (BA.out.then d7).alloc _, h.pm, own_lies LoanP.len (own_below o7 (below_alloc (Below.refl _ _) _)) en', fun e => by have := (o7.lt g e).1; omega, h.tp, h.fl, h.ng⟩) ?_
          clear d7 H6 BA o7 e7 h7 en' hg6
          rintro X7 ⟨gc, egc, bC, bA, h7⟩
          rw [egc]
          have H7 : Hid (AllM w X7 g q' (.slice aL' n' cL') q' (.slice aT m cT) t G m) := h7
          have c0 := bC.cell 0 _ rfl; have c1 := bC.cell 1 _ rfl; have c2 := bC.cell 2 _ rfl; have c3 := bC.cell 3 _ rfl
          have z0 := bA.cell 0 _ rfl; have z1 := bA.cell 1 _ rfl; have z2 := bA.cell 2 _ rfl; have z3 := bA.cell 3 _ rfl
          clear egc bC bA h7
          go_upto_region 27 with (go_at_call 17; refine (intactL_any G m (m + 80) _ t ⟨9, 0, 0, 0, 0, 0, false⟩ _ HTM.out (by omega) H7.out.fl H7.out.tp.l).mono ?_; rintro e w8 ⟨rfl, d8⟩)
          have H8 : Hid (AllM w w8 g q' (.slice aL' n' cL') q' (.slice aT m cT) t G m) := H7.out.then d8
          clear c0 c1 c2 c3 z0 z1 z2 z3 H7 d8
          go_wp2_with (go_at_call 18; refine (same_any g _ q' _ H8.out.pm.pool H8.out.ld HQ2.out.wf HQ2.out.len).mono ?_; rintro e w9 ⟨rfl, d9⟩)
          go_roundw
          case rel => exact ⟨k + 1, q', by omega, by go_num, HQ2.out, (H8.out.then d9).pm, (H8.out.then d9).ld, H8.out.ap⟩
          case measure => simp [intOf]; omega
    · go_wp2_with ((go_at_call 3; refine (poolRuns_any _).mono ?_; rintro e wr2 ⟨rfl, dr⟩))
      go_ret
      exact ⟨rfl, below_then HM.out.m.below dr⟩
  · go_wp2_with ((go_at_call 3; refine (poolRuns_any _).mono ?_; rintro e wr2 ⟨rfl, dr⟩))
    go_ret
    exact ⟨rfl, below_then HM.out.m.below dr⟩
theorem poolPlays_law (v0 v1 v2 v3 : Value) (w : World) (w0 : Arg w (.slice 1 (.int .i64)) v0) (w1 : Arg w (.slice 6 (.struct (.cons 1 (.slice 1 (.int .i64)) (.cons 1 (.slice 1 (.int .i64)) (.cons 1 (.slice 1 (.int .i64)) (.cons 1 (.slice 1 (.int .i64)) (.cons 1 (.slice 1 (.int .i64)) (.cons 1 (.slice 1 (.int .i64)) .nil)))))))) v1) (w2 : Arg w (.slice 7 (.struct (.cons 1 (.int .i64) (.cons 1 (.int .i64) (.cons 1 (.int .i64) (.cons 1 (.int .i64) (.cons 1 (.int .i64) (.cons 1 (.int .i64) (.cons 1 .bool .nil))))))))) v2) (w3 : Arg w (.int .i64) v3) :
    Calls Try.prog 4 #[v0, v1, v2, v3] w fun e w' => e = .returned (.bool true) ∧ Below w.heap.size w w' := by
  obtain ⟨zs, hz, _⟩ := arg_ints w0
  obtain ⟨nt, ht⟩ := arg_tapes w1
  obtain ⟨rs, hr⟩ := arg_lines w2
  obtain ⟨n, rfl, _⟩ := arg_int w3
  exact poolPlays_any v0 v1 v2 zs nt rs n w hz ht hr
end Go.Proofs.Ytoijgognbfifbaa
