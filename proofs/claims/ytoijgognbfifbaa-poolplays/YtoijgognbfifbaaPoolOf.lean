/-
  Package cascadekeep: the walk of Of: a tape of loans as they stand.
-/
import Derived.Test.YtoijgognbfifbaaPoolLoans
import Derived.Test.YtoijgognbfifbaaOfP
namespace Go.Proofs.Ytoijgognbfifbaa
open Go.RowKit

/-- A loan as it is handed in, of one as it stands. -/
def LoanP.ln (o : LoanP) : LnT := ⟨o.id, o.bal⟩
theorem ofLines_snoc (z0 z1 z2 z3 z4 z5 : List Int) (o : LoanP) : ∀ (p : List LoanP) (i : Nat), ofLines z0 z1 z2 z3 z4 z5 i (p ++ [o]) = ofLines z0 z1 z2 z3 z4 z5 i p ++ [ofLine z0 z1 z2 z3 z4 z5 (i + p.length) o.id o.bal o.lost]
  | [], i => rfl
  | y :: r, i => by
    rw [List.cons_append, ofLines, ofLines, ofLines_snoc z0 z1 z2 z3 z4 z5 o r (i + 1), List.length_cons, List.cons_append]
    congr 4
    omega
theorem theLines_append (a b : List (Option LineT)) : theLines (a ++ b) = theLines a ++ theLines b := by simp [theLines]
/-- The lines of the loans so far. -/
def ofY (z0 z1 z2 z3 z4 z5 : List Int) (p : List LoanP) (k : Nat) : List LineT := theLines (ofLines z0 z1 z2 z3 z4 z5 0 (p.take k))
theorem ofY_next {z0 z1 z2 z3 z4 z5 : List Int} {p : List LoanP} {k : Nat} {o : LoanP} (ho : p[k]? = some o) : ofY z0 z1 z2 z3 z4 z5 p (k + 1) = ofY z0 z1 z2 z3 z4 z5 p k ++ theLines [ofLine z0 z1 z2 z3 z4 z5 k o.id o.bal o.lost] := by
  obtain ⟨hk, rfl⟩ := List.getElem?_eq_some_iff.1 ho
  unfold ofY
  rw [List.take_succ_eq_append_getElem hk, ofLines_snoc, theLines_append, List.length_take, Nat.min_eq_left (Nat.le_of_lt hk), Nat.zero_add]
theorem ofLines_length (z0 z1 z2 z3 z4 z5 : List Int) : ∀ (p : List LoanP) (i : Nat), (theLines (ofLines z0 z1 z2 z3 z4 z5 i p)).length ≤ p.length
  | [], _ => by simp [ofLines, theLines]
  | y :: r, i => by
    have := ofLines_length z0 z1 z2 z3 z4 z5 r (i + 1)
    unfold ofLines
    cases ofLine z0 z1 z2 z3 z4 z5 i y.id y.bal y.lost with
    | none => simp [theLines] at this ⊢; omega
    | some x => simp [theLines] at this ⊢; omega
/-- What Of has in memory: the tape's numbers, the loan, the line, the lines so far. -/
structure OfS (w wx : World) (gT gX gL : Nat) (ss : List Value) (x : LnT) (l : LineT) (v : Value) (m : Nat) (ys : List LineT) : Prop where
  below : Below w.heap.size w wx
  low : w.heap.size ≤ gT
  tx : gT < gX
  xl : gX < gL
  bT : Blk wx gT 43 ss
  bX : Blk wx gX 25 x.f
  bL : Blk wx gL 32 l.f
  own : wx.ownsRow w.heap.size 32 7 v m (ys.flatMap LineT.f)
  apart : v.ownBlock ≠ some gL
theorem OfS.then {w wx wy : World} {gT gX gL m : Nat} {ss : List Value} {x : LnT} {l : LineT} {v : Value} {ys : List LineT} (h : OfS w wx gT gX gL ss x l v m ys) (k : Below wx.heap.size wx wy) : OfS w wy gT gX gL ss x l v m ys :=
  ⟨below_then h.below k, h.low, h.tx, h.xl, h.bT.then k, h.bX.then k, h.bL.then k, own_below h.own k, h.apart⟩
theorem OfS.set {w wx : World} {gT gX gL m : Nat} {ss : List Value} {x : LnT} {l : LineT} {v : Value} {ys : List LineT} (h : OfS w wx gT gX gL ss x l v m ys) (j : Nat) (u : Value) (l' : LineT) (e : l'.f = l.f.set j u) : OfS w (wx.setCell ⟨gL, j, none⟩ u) gT gX gL ss x l' v m ys := by
  have h1 := h.low
  have h2 := h.tx
  have h3 := h.xl
  have r := Rest.set gL j wx u
  refine ⟨r.below h.below (by omega) h.below.size, h.low, h.tx, h.xl, h.bT.rest r (by omega), h.bX.rest r (by omega), ?_, own_same h.own fun g hg => r.block g (h.own.lt g hg).2 (fun e => h.apart (e ▸ hg)), h.apart⟩
  rw [e]
  exact h.bL.set _ _

theorem OfS.cells {w wx : World} {gT gX gL m : Nat} {s0 s1 s2 s3 s4 s5 : Value} {oid bal : Int} {l : LineT} {v : Value} {ys : List LineT} (h : OfS w wx gT gX gL [s0, s1, s2, s3, s4, s5] ⟨oid, bal⟩ l v m ys) : wx.cell? ⟨gT, 0, none⟩ = some s0 ∧ wx.cell? ⟨gT, 1, none⟩ = some s1 ∧ wx.cell? ⟨gT, 2, none⟩ = some s2 ∧ wx.cell? ⟨gT, 3, none⟩ = some s3 ∧ wx.cell? ⟨gT, 4, none⟩ = some s4 ∧ wx.cell? ⟨gT, 5, none⟩ = some s5 ∧ wx.cell? ⟨gX, 0, none⟩ = some (.int .i64 oid) ∧ wx.cell? ⟨gX, 1, none⟩ = some (.int .i64 bal) :=
  ⟨h.bT.cell 0 _ rfl, h.bT.cell 1 _ rfl, h.bT.cell 2 _ rfl, h.bT.cell 3 _ rfl, h.bT.cell 4 _ rfl, h.bT.cell 5 _ rfl, h.bX.cell 0 _ rfl, h.bX.cell 1 _ rfl⟩
theorem OfS.cellsA {w wx : World} {gT gX gL m : Nat} {s0 s1 s2 s3 s4 s5 : Value} {oid bal : Int} {l : LineT} {v : Value} {ys : List LineT} (h : OfS w wx gT gX gL [s0, s1, s2, s3, s4, s5] ⟨oid, bal⟩ l v m ys) (j : Nat) (u : Value) (wy : World) (e : wy = (wx.setCell ⟨gL, j, none⟩ u).drew) : wy.cell? ⟨gT, 0, none⟩ = some s0 ∧ wy.cell? ⟨gT, 1, none⟩ = some s1 ∧ wy.cell? ⟨gT, 2, none⟩ = some s2 ∧ wy.cell? ⟨gT, 3, none⟩ = some s3 ∧ wy.cell? ⟨gT, 4, none⟩ = some s4 ∧ wy.cell? ⟨gT, 5, none⟩ = some s5 ∧ wy.cell? ⟨gX, 0, none⟩ = some (.int .i64 oid) ∧ wy.cell? ⟨gX, 1, none⟩ = some (.int .i64 bal) := by
  subst e
  have h2 := h.tx
  have h3 := h.xl
  have r := Rest.set gL j wx u
  have bT := h.bT.rest r (by omega)
  have bX := h.bX.rest r (by omega)
  exact ⟨bT.cell 0 _ rfl, bT.cell 1 _ rfl, bT.cell 2 _ rfl, bT.cell 3 _ rfl, bT.cell 4 _ rfl, bT.cell 5 _ rfl, bX.cell 0 _ rfl, bX.cell 1 _ rfl⟩
theorem OfS.cellL {w wx : World} {gT gX gL m : Nat} {ss : List Value} {x : LnT} {l : LineT} {v : Value} {ys : List LineT} (h : OfS w wx gT gX gL ss x l v m ys) (j i : Nat) (u y : Value) (hi : (l.f.set j u)[i]? = some y) (wy : World) (e : wy = (wx.setCell ⟨gL, j, none⟩ u).drew) : wy.cell? ⟨gL, i, none⟩ = some y := by
  subst e
  exact (h.bL.set j u).cell i y hi
theorem OfS.drew {w wx : World} {gT gX gL m : Nat} {ss : List Value} {x : LnT} {l : LineT} {v : Value} {ys : List LineT} (h : OfS w wx gT gX gL ss x l v m ys) : OfS w wx.drew gT gX gL ss x l v m ys := h.then (Below.refl _ _).drew

set_option maxRecDepth 1000000 in
set_option maxHeartbeats 2000000 in
theorem of_any (v0 v1 v2 : Value) (p : List LoanP) (w : World) (B : Int) (h0 : TapeIn w v0) (h1 : Lies 2 LnT.f w v1 (p.map LoanP.ln)) (h2 : Lies 1 intF w v2 (p.map LoanP.lost)) (hW : ∀ o ∈ p, o.Wf B) (hB : B ≤ 549755813888) (hn : p.length ≤ 64) :
    Calls Try.prog 14 #[v0, v1, v2] w fun e w' => ∃ v' ls, e = .returned v' ∧ LinesFor p ls ∧ w'.ownsRow w.heap.size 32 7 v' (theLines ls).length ((theLines ls).flatMap LineT.f) ∧ Below w.heap.size w w' := by
  obtain ⟨i0, hi, hz0, hz1, hz2⟩ := info_parts Try.info_line
  obtain ⟨s0, s1, s2, s3, s4, s5, z0, z1, z2, z3, z4, z5, rfl, l0, l1, l2, l3, l4, l5⟩ := h0
  obtain ⟨a1, c1, rfl, _, _, _, _⟩ := id h1
  obtain ⟨a2, c2, rfl, _, _, _, _⟩ := id h2
  obtain ⟨n, hnp⟩ : ∃ n, p.length = n := ⟨_, rfl⟩
  simp only [List.length_map, hnp] at h1 h2 ⊢
  rw [hnp] at hn
  have H1 : Hid (Lies 2 LnT.f w (.slice a1 n c1) (p.map LoanP.ln)) := h1
  have H2 : Hid (Lies 1 intF w (.slice a2 n c2) (p.map LoanP.lost)) := h2
  have L0 : Hid (Lies 1 intF w s0 z0) := l0
  have L1 : Hid (Lies 1 intF w s1 z1) := l1
  have L2 : Hid (Lies 1 intF w s2 z2) := l2
  have L3 : Hid (Lies 1 intF w s3 z3) := l3
  have L4 : Hid (Lies 1 intF w s4 z4) := l4
  have L5 : Hid (Lies 1 intF w s5 z5) := l5
  have HN : Hid (p.length = n) := hnp
  have hm : n ≤ 9223372036854775807 := by omega
  clear h1 h2 l0 l1 l2 l3 l4 l5 hnp
  go_enter Try.func14, Try.ntmps14
  go_upto_region 1 with fail
  refine wp_letter (fun wx => Below w.heap.size w wx ∧ ∃ gT, w.heap.size = gT ∧ w.heap.size ≤ gT ∧ Blk wx gT 43 [s0, s1, s2, s3, s4, s5]) ⟨below_alloc (Below.refl _ _) _, _, rfl, Nat.le_refl _, Blk.fresh _ _ _⟩ ?_
  rintro W ⟨hW0, gT, eT, lT, bT⟩
  rw [eT]
  clear eT
  go_wp2
  go_loopw [7, 13] (fun v i wr => ∃ (k m : Nat), k ≤ n ∧ i = .int .i64 k ∧ m ≤ k ∧ (ofY z0 z1 z2 z3 z4 z5 p k).length = m ∧ wr.ownsRow w.heap.size 32 7 v m ((ofY z0 z1 z2 z3 z4 z5 p k).flatMap LineT.f) ∧ Below w.heap.size w wr ∧ Blk wr gT 43 [s0, s1, s2, s3, s4, s5] ∧ v.ownBlock ≠ some gT) (fun _ i _ => n - (intOf i).toNat)
  case atStart => exact ⟨0, 0, Nat.zero_le _, rfl, Nat.le_refl _, rfl, World.ownsRow_nil _ _ _ _, hW0, bT, by simp [Value.ownBlock]⟩
  case round =>
  clear hW0 bT
  obtain ⟨k, m, hk, rfl, hmk, hlen, hO, hBw, bT, hTv⟩ := hrel
  have HTV : Hid (u7.ownBlock ≠ some gT) := hTv
  clear hTv
  by_cases hlt : k < n
  · have hkp : k < p.length := by have := HN.out; omega
    obtain ⟨o, ho⟩ : ∃ o, p[k]? = some o := ⟨_, List.getElem?_eq_getElem hkp⟩
    have hwf : o.Wf B := hW o (mem_at ho)
    obtain ⟨xb, xo, x, rfl, hx, _, x0, x1⟩ := H1.out.ln k hlt
    have ex : x = o.ln := by
      rw [List.getElem?_map, ho] at hx
      injection hx with hx
      exact hx.symm
    subst ex
    replace x0 := cell_keep hBw x0
    replace x1 := cell_keep hBw x1
    have HY : Hid (ofY z0 z1 z2 z3 z4 z5 p (k + 1) = ofY z0 z1 z2 z3 z4 z5 p k ++ theLines [ofLine z0 z1 z2 z3 z4 z5 k o.id o.bal o.lost]) := ofY_next ho
    obtain ⟨oid, bal, lost, late, over⟩ := o
    obtain ⟨b0, b1, q0, q1, _, _, _, _, _⟩ := hwf
    simp only [LoanP.ln] at x0 x1 b0 b1 q0 q1
    generalize ofY z0 z1 z2 z3 z4 z5 p k = ys at hlen hO HY
    clear hx
    go_upto_region 5 with fail
    refine wp_letter (fun wx => ∃ gX, wr.heap.size = gX ∧ gT < gX ∧ Below w.heap.size w wx ∧ wx.ownsRow w.heap.size 32 7 u7 m (ys.flatMap LineT.f) ∧ Blk wx gT 43 [s0, s1, s2, s3, s4, s5] ∧ Blk wx gX 25 (LnT.f ⟨oid, bal⟩)) ⟨_, rfl, bT.lt, below_alloc hBw _, hO.alloc _, bT.alloc _, Blk.fresh _ _ _⟩ ?_
    clear hBw hO bT x0 x1
    rintro V1 ⟨gX, eX, hTX, hV, hO, bT, bX⟩
    rw [eX]
    clear eX
    have K4 : Hid (Lies 1 intF V1 s4 z4) := L4.out.below hV
    obtain ⟨N4, e4⟩ : ∃ N, pickV z4 k = N := ⟨_, rfl⟩
    have P4 : Hid (pickV z4 k = N4) := e4
    clear e4
    have t0 := bT.cell 0 _ rfl; have t1 := bT.cell 1 _ rfl; have t2 := bT.cell 2 _ rfl; have t3 := bT.cell 3 _ rfl; have t4 := bT.cell 4 _ rfl; have t5 := bT.cell 5 _ rfl
    have x0 := bX.cell 0 _ rfl; have x1 := bX.cell 1 _ rfl
    cases hq : (bits .and .i64 N4 15 == 15) with
    | true =>
      have HY2 : Hid (ofY z0 z1 z2 z3 z4 z5 p (k + 1) = ys) := by
        show _ = _
        rw [HY.out, ofLine, P4.out, if_pos hq]
        simp [theLines]
      go_wp2_with ((go_at_call_of 28 (s4); refine (pick_to (K4).out (by omega) (P4).out).mono ?_; rintro e wq ⟨rfl, hq⟩; have hq := hq.symm; subst hq))
      go_roundw
      case rel => exact ⟨k + 1, m, by omega, by go_num, by omega, by rw [HY2.out]; exact hlen, by rw [HY2.out]; exact hO, hV, bT, HTV.out⟩
      case measure => simp [intOf]; omega
    | false =>
      have HQ : Hid ((bits .and .i64 N4 15 == 15) = false) := hq
      go_upto_region 7 with ((go_at_call_of 28 (s4); refine (pick_to (K4).out (by omega) (P4).out).mono ?_; rintro e wq ⟨rfl, hq⟩; have hq := hq.symm; subst hq))
      refine wp_letter (fun wx => ∃ gL, V1.heap.size = gL ∧ OfS w wx gT gX gL [s0, s1, s2, s3, s4, s5] ⟨oid, bal⟩ ⟨oid, 0, 0, 0, 0, 0, false⟩ u7 m ys) ⟨_, rfl, below_alloc hV _, lT, hTX, bX.lt, bT.alloc _, bX.alloc _, Blk.fresh _ _ _, hO.alloc _, fun e => by have := (hO.lt _ e).2; omega⟩ ?_
      clear hV hO bT bX t0 t1 t2 t3 t4 t5 x0 x1 hTX K4
      rintro V2 ⟨gL, eL, hS⟩
      rw [eL]
      clear eL
      (have CS : V2.cell? ⟨gT, 0, none⟩ = some s0 ∧ V2.cell? ⟨gT, 1, none⟩ = some s1 ∧ V2.cell? ⟨gT, 2, none⟩ = some s2 ∧ V2.cell? ⟨gT, 3, none⟩ = some s3 ∧ V2.cell? ⟨gT, 4, none⟩ = some s4 ∧ V2.cell? ⟨gT, 5, none⟩ = some s5 ∧ V2.cell? ⟨gX, 0, none⟩ = some (.int .i64 oid) ∧ V2.cell? ⟨gX, 1, none⟩ = some (.int .i64 bal) := hS.cells; have CA : Hid (∀ j u wy, wy = World.drew (World.setCell V2 ⟨gL, j, none⟩ u) → wy.cell? ⟨gT, 0, none⟩ = some s0 ∧ wy.cell? ⟨gT, 1, none⟩ = some s1 ∧ wy.cell? ⟨gT, 2, none⟩ = some s2 ∧ wy.cell? ⟨gT, 3, none⟩ = some s3 ∧ wy.cell? ⟨gT, 4, none⟩ = some s4 ∧ wy.cell? ⟨gT, 5, none⟩ = some s5 ∧ wy.cell? ⟨gX, 0, none⟩ = some (.int .i64 oid) ∧ wy.cell? ⟨gX, 1, none⟩ = some (.int .i64 bal)) := fun j u wy e => hS.cellsA j u wy e; have t0 := CS.1; have t1 := CS.2.1; have t2 := CS.2.2.1; have t3 := CS.2.2.2.1; have t4 := CS.2.2.2.2.1; have t5 := CS.2.2.2.2.2.1; have x0 := CS.2.2.2.2.2.2.1; have x1 := CS.2.2.2.2.2.2.2; have l0 := hS.bL.cell 0 _ rfl; have l1 := hS.bL.cell 1 _ rfl; have l2 := hS.bL.cell 2 _ rfl; have l3 := hS.bL.cell 3 _ rfl; have l4 := hS.bL.cell 4 _ rfl; have l5 := hS.bL.cell 5 _ rfl; have l6 := hS.bL.cell 6 _ rfl; have f0 := hS.bL.frozen 0; have f1 := hS.bL.frozen 1; have f2 := hS.bL.frozen 2; have f3 := hS.bL.frozen 3; have f4 := hS.bL.frozen 4; have f5 := hS.bL.frozen 5; have f6 := hS.bL.frozen 6; simp only at l0 l1 l2 l3 l4 l5 l6)
      go_upto_if 29 with fail
      go_cut [10] (fun s wx => s = .pointer (some ⟨gL, 0, none⟩) ∧ ∃ l, ofLine z0 z1 z2 z3 z4 z5 k oid bal lost = some l ∧ OfS w wx gT gX gL [s0, s1, s2, s3, s4, s5] ⟨oid, bal⟩ l u7 m ys)
      case first =>
        by_cases hbal : 0 < bal
        · (obtain ⟨N0, eN⟩ : ∃ N0, pickV z0 k = N0 := ⟨_, rfl⟩; have P0 : Hid (pickV z0 k = N0) := eN; clear eN)
          (obtain ⟨N1, eN⟩ : ∃ N1, pickV z1 k = N1 := ⟨_, rfl⟩; have P1 : Hid (pickV z1 k = N1) := eN; clear eN)
          (obtain ⟨N2, eN⟩ : ∃ N2, pickV z2 k = N2 := ⟨_, rfl⟩; have P2 : Hid (pickV z2 k = N2) := eN; clear eN)
          (obtain ⟨N3, eN⟩ : ∃ N3, pickV z3 k = N3 := ⟨_, rfl⟩; have P3 : Hid (pickV z3 k = N3) := eN; clear eN)
          (obtain ⟨N5, eN⟩ : ∃ N5, pickV z5 k = N5 := ⟨_, rfl⟩; have P5 : Hid (pickV z5 k = N5) := eN; clear eN)
          obtain ⟨A, eA⟩ : ∃ A, N0 % (bal / 4 + 1) = A := ⟨_, rfl⟩
          have hA := win_bd N0 (bal / 4) (by omega)
          rw [eA] at hA
          have EA : Hid (N0 % (bal / 4 + 1) = A) := eA
          clear eA
          obtain ⟨hA0, hA1⟩ := hA
          have W4 : IntKind.i64.wrap (bal.tdiv 4) = bal / 4 := by
            rw [Int.tdiv_eq_ediv_of_nonneg (by omega)]
            exact wrap_in _ (by omega) (by omega)
          have K0 : Hid (Lies 1 intF V2.drew s0 z0) := (L0.out.below hS.below).below (Below.refl _ _).drew
          go_upto_region 8 with fail
          go_region_held3 (fun wx => wx.cell? ⟨gT, 0, none⟩ = some s0 ∧ wx.cell? ⟨gT, 1, none⟩ = some s1 ∧ wx.cell? ⟨gT, 2, none⟩ = some s2 ∧ wx.cell? ⟨gT, 3, none⟩ = some s3 ∧ wx.cell? ⟨gT, 4, none⟩ = some s4 ∧ wx.cell? ⟨gT, 5, none⟩ = some s5 ∧ wx.cell? ⟨gX, 0, none⟩ = some (.int .i64 oid) ∧ wx.cell? ⟨gX, 1, none⟩ = some (.int .i64 bal)) (first | (with_reducible assumption) | (exact CS) | (exact CA.out _ _ _ rfl)) (first | ((go_at_call_of 28 (s0); refine (pick_to (K0).out (by omega) (P0).out).mono ?_; rintro e wq ⟨rfl, hq⟩; have hq := hq.symm; subst hq)) | ((go_at_call_of 22 (N0); refine (win_to (by omega) (by omega) (EA).out _).mono ?_; rintro e wq ⟨rfl, hq⟩; have hq := hq.symm; subst hq)))
          go_upto_region 9 with fail
          refine wp_letter (fun wx => OfS w wx gT gX gL [s0, s1, s2, s3, s4, s5] ⟨oid, bal⟩ ⟨oid, A, 0, 0, 0, 0, false⟩ u7 m ys) (hS.set 1 _ ⟨oid, A, 0, 0, 0, 0, false⟩ rfl).drew ?_
          (clear CS CA t0 t1 t2 t3 t4 t5 x0 x1 l0 l1 l2 l3 l4 l5 l6 f0 f1 f2 f3 f4 f5 f6)
          clear hS K0 W4
          rintro V3 hS
          (have CS : V3.cell? ⟨gT, 0, none⟩ = some s0 ∧ V3.cell? ⟨gT, 1, none⟩ = some s1 ∧ V3.cell? ⟨gT, 2, none⟩ = some s2 ∧ V3.cell? ⟨gT, 3, none⟩ = some s3 ∧ V3.cell? ⟨gT, 4, none⟩ = some s4 ∧ V3.cell? ⟨gT, 5, none⟩ = some s5 ∧ V3.cell? ⟨gX, 0, none⟩ = some (.int .i64 oid) ∧ V3.cell? ⟨gX, 1, none⟩ = some (.int .i64 bal) := hS.cells; have CA : Hid (∀ j u wy, wy = World.drew (World.setCell V3 ⟨gL, j, none⟩ u) → wy.cell? ⟨gT, 0, none⟩ = some s0 ∧ wy.cell? ⟨gT, 1, none⟩ = some s1 ∧ wy.cell? ⟨gT, 2, none⟩ = some s2 ∧ wy.cell? ⟨gT, 3, none⟩ = some s3 ∧ wy.cell? ⟨gT, 4, none⟩ = some s4 ∧ wy.cell? ⟨gT, 5, none⟩ = some s5 ∧ wy.cell? ⟨gX, 0, none⟩ = some (.int .i64 oid) ∧ wy.cell? ⟨gX, 1, none⟩ = some (.int .i64 bal)) := fun j u wy e => hS.cellsA j u wy e; have t0 := CS.1; have t1 := CS.2.1; have t2 := CS.2.2.1; have t3 := CS.2.2.2.1; have t4 := CS.2.2.2.2.1; have t5 := CS.2.2.2.2.2.1; have x0 := CS.2.2.2.2.2.2.1; have x1 := CS.2.2.2.2.2.2.2; have l0 := hS.bL.cell 0 _ rfl; have l1 := hS.bL.cell 1 _ rfl; have l2 := hS.bL.cell 2 _ rfl; have l3 := hS.bL.cell 3 _ rfl; have l4 := hS.bL.cell 4 _ rfl; have l5 := hS.bL.cell 5 _ rfl; have l6 := hS.bL.cell 6 _ rfl; have f0 := hS.bL.frozen 0; have f1 := hS.bL.frozen 1; have f2 := hS.bL.frozen 2; have f3 := hS.bL.frozen 3; have f4 := hS.bL.frozen 4; have f5 := hS.bL.frozen 5; have f6 := hS.bL.frozen 6; simp only at l0 l1 l2 l3 l4 l5 l6)
          obtain ⟨R, eR⟩ : ∃ R, bal - A = R := ⟨_, rfl⟩
          have ER : Hid (bal - A = R) := eR
          have hR0 : 0 ≤ R := by omega
          have hR1 : R ≤ bal := by omega
          have WR : IntKind.i64.wrap (bal - A) = R := by rw [eR]; exact wrap_in _ (by omega) (by omega)
          have W2 : IntKind.i64.wrap (2 * R) = 2 * R := wrap_in _ (by omega) (by omega)
          clear eR
          obtain ⟨Q0, eQ⟩ : ∃ Q, N1 % (2 * R + 1) = Q := ⟨_, rfl⟩
          have hQ := win_bd N1 (2 * R) (by omega)
          rw [eQ] at hQ
          have EQ0 : Hid (N1 % (2 * R + 1) = Q0) := eQ
          clear eQ
          obtain ⟨hQ0, hQ1⟩ := hQ
          have K1 : Hid (Lies 1 intF V3.drew s1 z1) := (L1.out.below hS.below).below (Below.refl _ _).drew
          have C9 : (fun wx : World => wx.cell? ⟨gT, 0, none⟩ = some s0 ∧ wx.cell? ⟨gT, 1, none⟩ = some s1 ∧ wx.cell? ⟨gT, 2, none⟩ = some s2 ∧ wx.cell? ⟨gT, 3, none⟩ = some s3 ∧ wx.cell? ⟨gT, 4, none⟩ = some s4 ∧ wx.cell? ⟨gT, 5, none⟩ = some s5 ∧ wx.cell? ⟨gX, 0, none⟩ = some (.int .i64 oid) ∧ wx.cell? ⟨gX, 1, none⟩ = some (.int .i64 bal) ∧ wx.cell? ⟨gL, 1, none⟩ = some (.int .i64 A)) V3 := ⟨t0, t1, t2, t3, t4, t5, x0, x1, l1⟩
          have A9 : Hid (∀ u wy, wy = World.drew (World.setCell V3 ⟨gL, 2, none⟩ u) → wy.cell? ⟨gT, 0, none⟩ = some s0 ∧ wy.cell? ⟨gT, 1, none⟩ = some s1 ∧ wy.cell? ⟨gT, 2, none⟩ = some s2 ∧ wy.cell? ⟨gT, 3, none⟩ = some s3 ∧ wy.cell? ⟨gT, 4, none⟩ = some s4 ∧ wy.cell? ⟨gT, 5, none⟩ = some s5 ∧ wy.cell? ⟨gX, 0, none⟩ = some (.int .i64 oid) ∧ wy.cell? ⟨gX, 1, none⟩ = some (.int .i64 bal) ∧ wy.cell? ⟨gL, 1, none⟩ = some (.int .i64 A)) := fun u wy e => by
            obtain ⟨q0, q1, q2, q3, q4, q5, q6, q7⟩ := hS.cellsA 2 u wy e
            exact ⟨q0, q1, q2, q3, q4, q5, q6, q7, hS.cellL 2 1 u _ rfl wy e⟩
          go_region_held3 (fun wx => wx.cell? ⟨gT, 0, none⟩ = some s0 ∧ wx.cell? ⟨gT, 1, none⟩ = some s1 ∧ wx.cell? ⟨gT, 2, none⟩ = some s2 ∧ wx.cell? ⟨gT, 3, none⟩ = some s3 ∧ wx.cell? ⟨gT, 4, none⟩ = some s4 ∧ wx.cell? ⟨gT, 5, none⟩ = some s5 ∧ wx.cell? ⟨gX, 0, none⟩ = some (.int .i64 oid) ∧ wx.cell? ⟨gX, 1, none⟩ = some (.int .i64 bal) ∧ wx.cell? ⟨gL, 1, none⟩ = some (.int .i64 A)) (first | (with_reducible assumption) | (exact C9) | (exact A9.out _ _ rfl)) (first | ((go_at_call_of 28 (s1); refine (pick_to (K1).out (by omega) (P1).out).mono ?_; rintro e wq ⟨rfl, hq⟩; have hq := hq.symm; subst hq)) | ((go_at_call_of 22 (N1); refine (win_to (by omega) (by omega) (EQ0).out _).mono ?_; rintro e wq ⟨rfl, hq⟩; have hq := hq.symm; subst hq)))
          go_upto_region 10 with fail
          refine wp_letter (fun wx => OfS w wx gT gX gL [s0, s1, s2, s3, s4, s5] ⟨oid, bal⟩ ⟨oid, A, Q0, 0, 0, 0, false⟩ u7 m ys) (hS.set 2 _ ⟨oid, A, Q0, 0, 0, 0, false⟩ rfl).drew ?_
          (clear CS CA t0 t1 t2 t3 t4 t5 x0 x1 l0 l1 l2 l3 l4 l5 l6 f0 f1 f2 f3 f4 f5 f6)
          clear hS K1 W2 C9 A9
          rintro V4 hS
          (have CS : V4.cell? ⟨gT, 0, none⟩ = some s0 ∧ V4.cell? ⟨gT, 1, none⟩ = some s1 ∧ V4.cell? ⟨gT, 2, none⟩ = some s2 ∧ V4.cell? ⟨gT, 3, none⟩ = some s3 ∧ V4.cell? ⟨gT, 4, none⟩ = some s4 ∧ V4.cell? ⟨gT, 5, none⟩ = some s5 ∧ V4.cell? ⟨gX, 0, none⟩ = some (.int .i64 oid) ∧ V4.cell? ⟨gX, 1, none⟩ = some (.int .i64 bal) := hS.cells; have CA : Hid (∀ j u wy, wy = World.drew (World.setCell V4 ⟨gL, j, none⟩ u) → wy.cell? ⟨gT, 0, none⟩ = some s0 ∧ wy.cell? ⟨gT, 1, none⟩ = some s1 ∧ wy.cell? ⟨gT, 2, none⟩ = some s2 ∧ wy.cell? ⟨gT, 3, none⟩ = some s3 ∧ wy.cell? ⟨gT, 4, none⟩ = some s4 ∧ wy.cell? ⟨gT, 5, none⟩ = some s5 ∧ wy.cell? ⟨gX, 0, none⟩ = some (.int .i64 oid) ∧ wy.cell? ⟨gX, 1, none⟩ = some (.int .i64 bal)) := fun j u wy e => hS.cellsA j u wy e; have t0 := CS.1; have t1 := CS.2.1; have t2 := CS.2.2.1; have t3 := CS.2.2.2.1; have t4 := CS.2.2.2.2.1; have t5 := CS.2.2.2.2.2.1; have x0 := CS.2.2.2.2.2.2.1; have x1 := CS.2.2.2.2.2.2.2; have l0 := hS.bL.cell 0 _ rfl; have l1 := hS.bL.cell 1 _ rfl; have l2 := hS.bL.cell 2 _ rfl; have l3 := hS.bL.cell 3 _ rfl; have l4 := hS.bL.cell 4 _ rfl; have l5 := hS.bL.cell 5 _ rfl; have l6 := hS.bL.cell 6 _ rfl; have f0 := hS.bL.frozen 0; have f1 := hS.bL.frozen 1; have f2 := hS.bL.frozen 2; have f3 := hS.bL.frozen 3; have f4 := hS.bL.frozen 4; have f5 := hS.bL.frozen 5; have f6 := hS.bL.frozen 6; simp only at l0 l1 l2 l3 l4 l5 l6)
          obtain ⟨Q, eQ⟩ : ∃ Q, (if R < Q0 then 0 else Q0) = Q := ⟨_, rfl⟩
          have EQ : Hid ((if R < Q0 then 0 else Q0) = Q) := eQ
          have hQa : 0 ≤ Q := by rw [← eQ]; split <;> omega
          have hQb : Q ≤ R := by rw [← eQ]; split <;> omega
          clear eQ
          go_upto_if 58 with fail
          go_cut [10] (fun s wx => s = .pointer (some ⟨gL, 0, none⟩) ∧ OfS w wx gT gX gL [s0, s1, s2, s3, s4, s5] ⟨oid, bal⟩ ⟨oid, A, Q, 0, 0, 0, false⟩ u7 m ys)
          case first =>
            by_cases hlq : R < Q0
            · have hq0 : Q = 0 := by rw [← EQ.out, if_pos hlq]
              subst hq0
              go_wp2
              go_meet
              case rel => exact ⟨rfl, hS.set 2 _ ⟨oid, A, 0, 0, 0, 0, false⟩ rfl⟩
            · have hq0 : Q0 = Q := by rw [← EQ.out, if_neg hlq]
              subst hq0
              go_wp2
              go_meet
              case rel => exact ⟨rfl, hS⟩
          case rest =>
          (clear CS CA t0 t1 t2 t3 t4 t5 x0 x1 l0 l1 l2 l3 l4 l5 l6 f0 f1 f2 f3 f4 f5 f6)
          clear hS
          obtain ⟨rfl, hS⟩ := hcut
          obtain ⟨V5, eV⟩ : ∃ V5, V5 = wc := ⟨_, rfl⟩
          subst eV
          (have CS : V5.cell? ⟨gT, 0, none⟩ = some s0 ∧ V5.cell? ⟨gT, 1, none⟩ = some s1 ∧ V5.cell? ⟨gT, 2, none⟩ = some s2 ∧ V5.cell? ⟨gT, 3, none⟩ = some s3 ∧ V5.cell? ⟨gT, 4, none⟩ = some s4 ∧ V5.cell? ⟨gT, 5, none⟩ = some s5 ∧ V5.cell? ⟨gX, 0, none⟩ = some (.int .i64 oid) ∧ V5.cell? ⟨gX, 1, none⟩ = some (.int .i64 bal) := hS.cells; have CA : Hid (∀ j u wy, wy = World.drew (World.setCell V5 ⟨gL, j, none⟩ u) → wy.cell? ⟨gT, 0, none⟩ = some s0 ∧ wy.cell? ⟨gT, 1, none⟩ = some s1 ∧ wy.cell? ⟨gT, 2, none⟩ = some s2 ∧ wy.cell? ⟨gT, 3, none⟩ = some s3 ∧ wy.cell? ⟨gT, 4, none⟩ = some s4 ∧ wy.cell? ⟨gT, 5, none⟩ = some s5 ∧ wy.cell? ⟨gX, 0, none⟩ = some (.int .i64 oid) ∧ wy.cell? ⟨gX, 1, none⟩ = some (.int .i64 bal)) := fun j u wy e => hS.cellsA j u wy e; have t0 := CS.1; have t1 := CS.2.1; have t2 := CS.2.2.1; have t3 := CS.2.2.2.1; have t4 := CS.2.2.2.2.1; have t5 := CS.2.2.2.2.2.1; have x0 := CS.2.2.2.2.2.2.1; have x1 := CS.2.2.2.2.2.2.2; have l0 := hS.bL.cell 0 _ rfl; have l1 := hS.bL.cell 1 _ rfl; have l2 := hS.bL.cell 2 _ rfl; have l3 := hS.bL.cell 3 _ rfl; have l4 := hS.bL.cell 4 _ rfl; have l5 := hS.bL.cell 5 _ rfl; have l6 := hS.bL.cell 6 _ rfl; have f0 := hS.bL.frozen 0; have f1 := hS.bL.frozen 1; have f2 := hS.bL.frozen 2; have f3 := hS.bL.frozen 3; have f4 := hS.bL.frozen 4; have f5 := hS.bL.frozen 5; have f6 := hS.bL.frozen 6; simp only at l0 l1 l2 l3 l4 l5 l6)
          have W5 : IntKind.i64.wrap (bal.tdiv 50) = bal / 50 := by
            rw [Int.tdiv_eq_ediv_of_nonneg (by omega)]
            exact wrap_in _ (by omega) (by omega)
          have W6 : IntKind.i64.wrap (1 + bal / 50) = 1 + bal / 50 := wrap_in _ (by omega) (by omega)
          obtain ⟨T, eT⟩ : ∃ T, N2 % (1 + bal / 50 + 1) = T := ⟨_, rfl⟩
          have hT := win_bd N2 (1 + bal / 50) (by omega)
          rw [eT] at hT
          have ET : Hid (N2 % (1 + bal / 50 + 1) = T) := eT
          clear eT
          have K2 : Hid (Lies 1 intF V5.drew s2 z2) := (L2.out.below hS.below).below (Below.refl _ _).drew
          go_upto_region 12 with fail
          go_region_held3 (fun wx => wx.cell? ⟨gT, 0, none⟩ = some s0 ∧ wx.cell? ⟨gT, 1, none⟩ = some s1 ∧ wx.cell? ⟨gT, 2, none⟩ = some s2 ∧ wx.cell? ⟨gT, 3, none⟩ = some s3 ∧ wx.cell? ⟨gT, 4, none⟩ = some s4 ∧ wx.cell? ⟨gT, 5, none⟩ = some s5 ∧ wx.cell? ⟨gX, 0, none⟩ = some (.int .i64 oid) ∧ wx.cell? ⟨gX, 1, none⟩ = some (.int .i64 bal)) (first | (with_reducible assumption) | (exact CS) | (exact CA.out _ _ _ rfl)) (first | ((go_at_call_of 28 (s2); refine (pick_to (K2).out (by omega) (P2).out).mono ?_; rintro e wq ⟨rfl, hq⟩; have hq := hq.symm; subst hq)) | ((go_at_call_of 22 (N2); refine (win_to (by omega) (by omega) (ET).out _).mono ?_; rintro e wq ⟨rfl, hq⟩; have hq := hq.symm; subst hq)))
          go_upto_region 13 with fail
          refine wp_letter (fun wx => OfS w wx gT gX gL [s0, s1, s2, s3, s4, s5] ⟨oid, bal⟩ ⟨oid, A, Q, T, 0, 0, false⟩ u7 m ys) (hS.set 3 _ ⟨oid, A, Q, T, 0, 0, false⟩ rfl).drew ?_
          (clear CS CA t0 t1 t2 t3 t4 t5 x0 x1 l0 l1 l2 l3 l4 l5 l6 f0 f1 f2 f3 f4 f5 f6)
          clear hS K2 W5 W6
          rintro V6 hS
          (have CS : V6.cell? ⟨gT, 0, none⟩ = some s0 ∧ V6.cell? ⟨gT, 1, none⟩ = some s1 ∧ V6.cell? ⟨gT, 2, none⟩ = some s2 ∧ V6.cell? ⟨gT, 3, none⟩ = some s3 ∧ V6.cell? ⟨gT, 4, none⟩ = some s4 ∧ V6.cell? ⟨gT, 5, none⟩ = some s5 ∧ V6.cell? ⟨gX, 0, none⟩ = some (.int .i64 oid) ∧ V6.cell? ⟨gX, 1, none⟩ = some (.int .i64 bal) := hS.cells; have CA : Hid (∀ j u wy, wy = World.drew (World.setCell V6 ⟨gL, j, none⟩ u) → wy.cell? ⟨gT, 0, none⟩ = some s0 ∧ wy.cell? ⟨gT, 1, none⟩ = some s1 ∧ wy.cell? ⟨gT, 2, none⟩ = some s2 ∧ wy.cell? ⟨gT, 3, none⟩ = some s3 ∧ wy.cell? ⟨gT, 4, none⟩ = some s4 ∧ wy.cell? ⟨gT, 5, none⟩ = some s5 ∧ wy.cell? ⟨gX, 0, none⟩ = some (.int .i64 oid) ∧ wy.cell? ⟨gX, 1, none⟩ = some (.int .i64 bal)) := fun j u wy e => hS.cellsA j u wy e; have t0 := CS.1; have t1 := CS.2.1; have t2 := CS.2.2.1; have t3 := CS.2.2.2.1; have t4 := CS.2.2.2.2.1; have t5 := CS.2.2.2.2.2.1; have x0 := CS.2.2.2.2.2.2.1; have x1 := CS.2.2.2.2.2.2.2; have l0 := hS.bL.cell 0 _ rfl; have l1 := hS.bL.cell 1 _ rfl; have l2 := hS.bL.cell 2 _ rfl; have l3 := hS.bL.cell 3 _ rfl; have l4 := hS.bL.cell 4 _ rfl; have l5 := hS.bL.cell 5 _ rfl; have l6 := hS.bL.cell 6 _ rfl; have f0 := hS.bL.frozen 0; have f1 := hS.bL.frozen 1; have f2 := hS.bL.frozen 2; have f3 := hS.bL.frozen 3; have f4 := hS.bL.frozen 4; have f5 := hS.bL.frozen 5; have f6 := hS.bL.frozen 6; simp only at l0 l1 l2 l3 l4 l5 l6)
          obtain ⟨T4, e4⟩ : ∃ T, N4 % (24 + 1) = T := ⟨_, rfl⟩
          have h4 := win_bd N4 24 (by omega)
          rw [e4] at h4
          have E4 : Hid (N4 % (24 + 1) = T4) := e4
          clear e4
          obtain ⟨h40, h41⟩ := h4
          obtain ⟨M, eM⟩ : ∃ M, max 0 (T4 - 12) = M := ⟨_, rfl⟩
          have EM : Hid (max 0 (T4 - 12) = M) := eM
          have M1 : (if 0 < T4 - 12 then T4 - 12 else 0) = M := by rw [← eM]; split <;> omega
          have M2 : (if T4 - 12 < 0 then 0 else T4 - 12) = M := by rw [← eM]; split <;> omega
          have M3 : max 0 (T4 - 12) = M := eM
          have M4 : (if 12 < T4 then T4 - 12 else 0) = M := by rw [← eM]; split <;> omega
          clear eM
          have K4 : Hid (Lies 1 intF V6 s4 z4) := L4.out.below hS.below
          go_upto_region 14 with (first | ((go_at_call_of 28 (s4); refine (pick_to (K4).out (by omega) (P4).out).mono ?_; rintro e wq ⟨rfl, hq⟩; have hq := hq.symm; subst hq)) | ((go_at_call_of 22 (N4); refine (win_to (by omega) (by omega) (E4).out _).mono ?_; rintro e wq ⟨rfl, hq⟩; have hq := hq.symm; subst hq)))
          refine wp_letter (fun wx => OfS w wx gT gX gL [s0, s1, s2, s3, s4, s5] ⟨oid, bal⟩ ⟨oid, A, Q, T, 0, M, false⟩ u7 m ys) (hS.set 5 _ ⟨oid, A, Q, T, 0, M, false⟩ rfl) ?_
          (clear CS CA t0 t1 t2 t3 t4 t5 x0 x1 l0 l1 l2 l3 l4 l5 l6 f0 f1 f2 f3 f4 f5 f6)
          clear hS K4 M1 M2 M3 M4
          rintro V7 hS
          (have CS : V7.cell? ⟨gT, 0, none⟩ = some s0 ∧ V7.cell? ⟨gT, 1, none⟩ = some s1 ∧ V7.cell? ⟨gT, 2, none⟩ = some s2 ∧ V7.cell? ⟨gT, 3, none⟩ = some s3 ∧ V7.cell? ⟨gT, 4, none⟩ = some s4 ∧ V7.cell? ⟨gT, 5, none⟩ = some s5 ∧ V7.cell? ⟨gX, 0, none⟩ = some (.int .i64 oid) ∧ V7.cell? ⟨gX, 1, none⟩ = some (.int .i64 bal) := hS.cells; have CA : Hid (∀ j u wy, wy = World.drew (World.setCell V7 ⟨gL, j, none⟩ u) → wy.cell? ⟨gT, 0, none⟩ = some s0 ∧ wy.cell? ⟨gT, 1, none⟩ = some s1 ∧ wy.cell? ⟨gT, 2, none⟩ = some s2 ∧ wy.cell? ⟨gT, 3, none⟩ = some s3 ∧ wy.cell? ⟨gT, 4, none⟩ = some s4 ∧ wy.cell? ⟨gT, 5, none⟩ = some s5 ∧ wy.cell? ⟨gX, 0, none⟩ = some (.int .i64 oid) ∧ wy.cell? ⟨gX, 1, none⟩ = some (.int .i64 bal)) := fun j u wy e => hS.cellsA j u wy e; have t0 := CS.1; have t1 := CS.2.1; have t2 := CS.2.2.1; have t3 := CS.2.2.2.1; have t4 := CS.2.2.2.2.1; have t5 := CS.2.2.2.2.2.1; have x0 := CS.2.2.2.2.2.2.1; have x1 := CS.2.2.2.2.2.2.2; have l0 := hS.bL.cell 0 _ rfl; have l1 := hS.bL.cell 1 _ rfl; have l2 := hS.bL.cell 2 _ rfl; have l3 := hS.bL.cell 3 _ rfl; have l4 := hS.bL.cell 4 _ rfl; have l5 := hS.bL.cell 5 _ rfl; have l6 := hS.bL.cell 6 _ rfl; have f0 := hS.bL.frozen 0; have f1 := hS.bL.frozen 1; have f2 := hS.bL.frozen 2; have f3 := hS.bL.frozen 3; have f4 := hS.bL.frozen 4; have f5 := hS.bL.frozen 5; have f6 := hS.bL.frozen 6; simp only at l0 l1 l2 l3 l4 l5 l6)
          have K5 : Hid (Lies 1 intF V7 s5 z5) := L5.out.below hS.below
          cases hD : (bits .and .i64 N5 7 == 7) with
          | false =>
            have HD : Hid ((bits .and .i64 N5 7 == 7) = false) := hD
            have HL : Hid (ofLine z0 z1 z2 z3 z4 z5 k oid bal lost = some ⟨oid, A, Q, T, 0, M, false⟩) := by
              show _ = _
              simp only [ofLine, P0.out, P1.out, P2.out, P4.out, P5.out, HQ.out, HD.out, Bool.false_eq_true, if_false, hbal, if_true, EA.out, ER.out, EQ0.out, EQ.out, ET.out, E4.out, EM.out]
            go_wp2_with ((go_at_call_of 28 (s5); refine (pick_to (K5).out (by omega) (P5).out).mono ?_; rintro e wq ⟨rfl, hq⟩; have hq := hq.symm; subst hq))
            go_meet
            case rel => exact ⟨rfl, _, HL.out, hS⟩
          | true =>
            have HD : Hid ((bits .and .i64 N5 7 == 7) = true) := hD
            obtain ⟨R3, eR⟩ : ∃ R3, R - Q = R3 := ⟨_, rfl⟩
            have ER3 : Hid (R - Q = R3) := eR
            have WR3 : IntKind.i64.wrap (R - Q) = R3 := by rw [eR]; exact wrap_in _ (by omega) (by omega)
            have hR3 : 0 ≤ R3 := by omega
            have hR4 : R3 ≤ bal := by omega
            clear eR
            obtain ⟨C, eC⟩ : ∃ C, N3 % (R3 + 1) = C := ⟨_, rfl⟩
            have EC : Hid (N3 % (R3 + 1) = C) := eC
            clear eC
            have HL : Hid (ofLine z0 z1 z2 z3 z4 z5 k oid bal lost = some ⟨oid, A, Q, T, C, M, true⟩) := by
              show _ = _
              simp only [ofLine, P0.out, P1.out, P2.out, P3.out, P4.out, P5.out, HQ.out, HD.out, Bool.false_eq_true, if_false, hbal, if_true, EA.out, ER.out, EQ0.out, EQ.out, ET.out, E4.out, EM.out, ER3.out, EC.out]
            go_upto_region 16 with ((go_at_call_of 28 (s5); refine (pick_to (K5).out (by omega) (P5).out).mono ?_; rintro e wq ⟨rfl, hq⟩; have hq := hq.symm; subst hq))
            refine wp_letter (fun wx => OfS w wx gT gX gL [s0, s1, s2, s3, s4, s5] ⟨oid, bal⟩ ⟨oid, A, Q, T, 0, M, true⟩ u7 m ys) (hS.set 6 _ ⟨oid, A, Q, T, 0, M, true⟩ rfl) ?_
            (clear CS CA t0 t1 t2 t3 t4 t5 x0 x1 l0 l1 l2 l3 l4 l5 l6 f0 f1 f2 f3 f4 f5 f6)
            clear hS K5 hD
            rintro V8 hS
            (have CS : V8.cell? ⟨gT, 0, none⟩ = some s0 ∧ V8.cell? ⟨gT, 1, none⟩ = some s1 ∧ V8.cell? ⟨gT, 2, none⟩ = some s2 ∧ V8.cell? ⟨gT, 3, none⟩ = some s3 ∧ V8.cell? ⟨gT, 4, none⟩ = some s4 ∧ V8.cell? ⟨gT, 5, none⟩ = some s5 ∧ V8.cell? ⟨gX, 0, none⟩ = some (.int .i64 oid) ∧ V8.cell? ⟨gX, 1, none⟩ = some (.int .i64 bal) := hS.cells; have CA : Hid (∀ j u wy, wy = World.drew (World.setCell V8 ⟨gL, j, none⟩ u) → wy.cell? ⟨gT, 0, none⟩ = some s0 ∧ wy.cell? ⟨gT, 1, none⟩ = some s1 ∧ wy.cell? ⟨gT, 2, none⟩ = some s2 ∧ wy.cell? ⟨gT, 3, none⟩ = some s3 ∧ wy.cell? ⟨gT, 4, none⟩ = some s4 ∧ wy.cell? ⟨gT, 5, none⟩ = some s5 ∧ wy.cell? ⟨gX, 0, none⟩ = some (.int .i64 oid) ∧ wy.cell? ⟨gX, 1, none⟩ = some (.int .i64 bal)) := fun j u wy e => hS.cellsA j u wy e; have t0 := CS.1; have t1 := CS.2.1; have t2 := CS.2.2.1; have t3 := CS.2.2.2.1; have t4 := CS.2.2.2.2.1; have t5 := CS.2.2.2.2.2.1; have x0 := CS.2.2.2.2.2.2.1; have x1 := CS.2.2.2.2.2.2.2; have l0 := hS.bL.cell 0 _ rfl; have l1 := hS.bL.cell 1 _ rfl; have l2 := hS.bL.cell 2 _ rfl; have l3 := hS.bL.cell 3 _ rfl; have l4 := hS.bL.cell 4 _ rfl; have l5 := hS.bL.cell 5 _ rfl; have l6 := hS.bL.cell 6 _ rfl; have f0 := hS.bL.frozen 0; have f1 := hS.bL.frozen 1; have f2 := hS.bL.frozen 2; have f3 := hS.bL.frozen 3; have f4 := hS.bL.frozen 4; have f5 := hS.bL.frozen 5; have f6 := hS.bL.frozen 6; simp only at l0 l1 l2 l3 l4 l5 l6)
            have K3 : Hid (Lies 1 intF V8.drew s3 z3) := (L3.out.below hS.below).below (Below.refl _ _).drew
            have C16 : (fun wx : World => wx.cell? ⟨gT, 0, none⟩ = some s0 ∧ wx.cell? ⟨gT, 1, none⟩ = some s1 ∧ wx.cell? ⟨gT, 2, none⟩ = some s2 ∧ wx.cell? ⟨gT, 3, none⟩ = some s3 ∧ wx.cell? ⟨gT, 4, none⟩ = some s4 ∧ wx.cell? ⟨gT, 5, none⟩ = some s5 ∧ wx.cell? ⟨gX, 0, none⟩ = some (.int .i64 oid) ∧ wx.cell? ⟨gX, 1, none⟩ = some (.int .i64 bal) ∧ wx.cell? ⟨gL, 1, none⟩ = some (.int .i64 A) ∧ wx.cell? ⟨gL, 2, none⟩ = some (.int .i64 Q)) V8 := ⟨t0, t1, t2, t3, t4, t5, x0, x1, l1, l2⟩
            have A16 : Hid (∀ u wy, wy = World.drew (World.setCell V8 ⟨gL, 4, none⟩ u) → wy.cell? ⟨gT, 0, none⟩ = some s0 ∧ wy.cell? ⟨gT, 1, none⟩ = some s1 ∧ wy.cell? ⟨gT, 2, none⟩ = some s2 ∧ wy.cell? ⟨gT, 3, none⟩ = some s3 ∧ wy.cell? ⟨gT, 4, none⟩ = some s4 ∧ wy.cell? ⟨gT, 5, none⟩ = some s5 ∧ wy.cell? ⟨gX, 0, none⟩ = some (.int .i64 oid) ∧ wy.cell? ⟨gX, 1, none⟩ = some (.int .i64 bal) ∧ wy.cell? ⟨gL, 1, none⟩ = some (.int .i64 A) ∧ wy.cell? ⟨gL, 2, none⟩ = some (.int .i64 Q)) := fun u wy e => by
              obtain ⟨q0, q1, q2, q3, q4, q5, q6, q7⟩ := hS.cellsA 4 u wy e
              exact ⟨q0, q1, q2, q3, q4, q5, q6, q7, hS.cellL 4 1 u _ rfl wy e, hS.cellL 4 2 u _ rfl wy e⟩
            go_region_held3 (fun wx => wx.cell? ⟨gT, 0, none⟩ = some s0 ∧ wx.cell? ⟨gT, 1, none⟩ = some s1 ∧ wx.cell? ⟨gT, 2, none⟩ = some s2 ∧ wx.cell? ⟨gT, 3, none⟩ = some s3 ∧ wx.cell? ⟨gT, 4, none⟩ = some s4 ∧ wx.cell? ⟨gT, 5, none⟩ = some s5 ∧ wx.cell? ⟨gX, 0, none⟩ = some (.int .i64 oid) ∧ wx.cell? ⟨gX, 1, none⟩ = some (.int .i64 bal) ∧ wx.cell? ⟨gL, 1, none⟩ = some (.int .i64 A) ∧ wx.cell? ⟨gL, 2, none⟩ = some (.int .i64 Q)) (first | (with_reducible assumption) | (exact C16) | (exact A16.out _ _ rfl)) (first | ((go_at_call_of 28 (s3); refine (pick_to (K3).out (by omega) (P3).out).mono ?_; rintro e wq ⟨rfl, hq⟩; have hq := hq.symm; subst hq)) | ((go_at_call_of 22 (N3); refine (win_to (by omega) (by omega) (EC).out _).mono ?_; rintro e wq ⟨rfl, hq⟩; have hq := hq.symm; subst hq)))
            go_wp2
            go_meet
            case rel => exact ⟨rfl, _, HL.out, (hS.set 4 _ ⟨oid, A, Q, T, C, M, true⟩ rfl).drew⟩
        · obtain ⟨lb, lo, rfl, cl⟩ := H2.out.num k hlt
          rw [List.getD_eq_getElem?_getD, List.getElem?_map, ho] at cl
          simp only [Option.map_some, Option.getD_some] at cl
          have hlw : lb < w.heap.size := cell_block cl
          replace cl := cell_keep hS.below cl
          (obtain ⟨N3, eN⟩ : ∃ N3, pickV z3 k = N3 := ⟨_, rfl⟩; have P3 : Hid (pickV z3 k = N3) := eN; clear eN)
          by_cases hls : 0 < lost
          · obtain ⟨C, eC⟩ : ∃ C, N3 % (lost + 1) = C := ⟨_, rfl⟩
            have EC : Hid (N3 % (lost + 1) = C) := eC
            clear eC
            have HL : Hid (ofLine z0 z1 z2 z3 z4 z5 k oid bal lost = some ⟨oid, 0, 0, 0, C, 0, false⟩) := by
              show _ = _
              simp only [ofLine, P3.out, P4.out, HQ.out, Bool.false_eq_true, if_false, hbal, hls, if_true, EC.out]
            go_upto_region 18 with fail
            have K3 : Hid (Lies 1 intF V2.drew s3 z3) := (L3.out.below hS.below).below (Below.refl _ _).drew
            have C18 : (fun wx : World => wx.cell? ⟨gT, 0, none⟩ = some s0 ∧ wx.cell? ⟨gT, 1, none⟩ = some s1 ∧ wx.cell? ⟨gT, 2, none⟩ = some s2 ∧ wx.cell? ⟨gT, 3, none⟩ = some s3 ∧ wx.cell? ⟨gT, 4, none⟩ = some s4 ∧ wx.cell? ⟨gT, 5, none⟩ = some s5 ∧ wx.cell? ⟨gX, 0, none⟩ = some (.int .i64 oid) ∧ wx.cell? ⟨gX, 1, none⟩ = some (.int .i64 bal) ∧ wx.cell? ⟨lb, lo + k, none⟩ = some (.int .i64 lost)) V2 := ⟨t0, t1, t2, t3, t4, t5, x0, x1, cl⟩
            have A18 : Hid (∀ u wy, wy = World.drew (World.setCell V2 ⟨gL, 4, none⟩ u) → wy.cell? ⟨gT, 0, none⟩ = some s0 ∧ wy.cell? ⟨gT, 1, none⟩ = some s1 ∧ wy.cell? ⟨gT, 2, none⟩ = some s2 ∧ wy.cell? ⟨gT, 3, none⟩ = some s3 ∧ wy.cell? ⟨gT, 4, none⟩ = some s4 ∧ wy.cell? ⟨gT, 5, none⟩ = some s5 ∧ wy.cell? ⟨gX, 0, none⟩ = some (.int .i64 oid) ∧ wy.cell? ⟨gX, 1, none⟩ = some (.int .i64 bal) ∧ wy.cell? ⟨lb, lo + k, none⟩ = some (.int .i64 lost)) := fun u wy e => by
              obtain ⟨q0, q1, q2, q3, q4, q5, q6, q7⟩ := hS.cellsA 4 u wy e
              subst e
              have hlg : lb ≠ gL := by have := hS.low; have := hS.tx; have := hS.xl; omega
              exact ⟨q0, q1, q2, q3, q4, q5, q6, q7, (World.cell?_of_block (w := V2) (a := ⟨lb, lo + k, none⟩) ((Rest.set gL 4 V2 u).block lb (cell_block cl) hlg)).trans cl⟩
            go_region_held3 (fun wx => wx.cell? ⟨gT, 0, none⟩ = some s0 ∧ wx.cell? ⟨gT, 1, none⟩ = some s1 ∧ wx.cell? ⟨gT, 2, none⟩ = some s2 ∧ wx.cell? ⟨gT, 3, none⟩ = some s3 ∧ wx.cell? ⟨gT, 4, none⟩ = some s4 ∧ wx.cell? ⟨gT, 5, none⟩ = some s5 ∧ wx.cell? ⟨gX, 0, none⟩ = some (.int .i64 oid) ∧ wx.cell? ⟨gX, 1, none⟩ = some (.int .i64 bal) ∧ wx.cell? ⟨lb, lo + k, none⟩ = some (.int .i64 lost)) (first | (with_reducible assumption) | (exact C18) | (exact A18.out _ _ rfl)) (first | ((go_at_call_of 28 (s3); refine (pick_to (K3).out (by omega) (P3).out).mono ?_; rintro e wq ⟨rfl, hq⟩; have hq := hq.symm; subst hq)) | ((go_at_call_of 22 (N3); refine (win_to (by omega) (by omega) (EC).out _).mono ?_; rintro e wq ⟨rfl, hq⟩; have hq := hq.symm; subst hq)))
            go_wp2
            go_meet
            case rel => exact ⟨rfl, _, HL.out, (hS.set 4 _ ⟨oid, 0, 0, 0, C, 0, false⟩ rfl).drew⟩
          · have HL : Hid (ofLine z0 z1 z2 z3 z4 z5 k oid bal lost = some ⟨oid, 0, 0, 0, 0, 0, false⟩) := by
              show _ = _
              simp only [ofLine, P4.out, HQ.out, Bool.false_eq_true, if_false, hbal, hls]
            go_wp2
            go_meet
            case rel => exact ⟨rfl, _, HL.out, hS⟩
      case rest =>
        (clear CS CA t0 t1 t2 t3 t4 t5 x0 x1 l0 l1 l2 l3 l4 l5 l6 f0 f1 f2 f3 f4 f5 f6)
        clear hS
        obtain ⟨rfl, l, hl, hS⟩ := hcut
        have HY2 : Hid (ofY z0 z1 z2 z3 z4 z5 p (k + 1) = ys ++ [l]) := by
          show _ = _
          rw [HY.out, hl]
          rfl
        have c0 := hS.bL.cell 0 _ rfl; have c1 := hS.bL.cell 1 _ rfl; have c2 := hS.bL.cell 2 _ rfl; have c3 := hS.bL.cell 3 _ rfl; have c4 := hS.bL.cell 4 _ rfl; have c5 := hS.bL.cell 5 _ rfl; have c6 := hS.bL.cell 6 _ rfl
        have OW : Hid ((wc.alloc (.cells #[.int .i64 l.id, .int .i64 l.pr, .int .i64 l.pp, .int .i64 l.it, .int .i64 l.rc, .int .i64 l.lt, .bool l.df] 32)).ownsRow w.heap.size 32 7 u7 m (ys.flatMap LineT.f)) := hS.own.alloc _
        have SR : Hid (Src (wc.alloc (.cells #[.int .i64 l.id, .int .i64 l.pr, .int .i64 l.pp, .int .i64 l.it, .int .i64 l.rc, .int .i64 l.lt, .bool l.df] 32)) (.slice (some ⟨wc.heap.size, 0, none⟩) 1 1) 1 l.f) := src_new wc _ 1 _
        have BS : Hid (w.heap.size ≤ (wc.alloc (.cells #[.int .i64 l.id, .int .i64 l.pr, .int .i64 l.pp, .int .i64 l.it, .int .i64 l.rc, .int .i64 l.lt, .bool l.df] 32)).heap.size) := by
          have := hS.below.size
          show w.heap.size ≤ (wc.alloc (.cells #[.int .i64 l.id, .int .i64 l.pr, .int .i64 l.pp, .int .i64 l.it, .int .i64 l.rc, .int .i64 l.lt, .bool l.df] 32)).heap.size
          simp
          omega
        have hwg : w.heap.size ≤ gL := by have := hS.low; have := hS.tx; have := hS.xl; omega
        have bT := hS.bT
        have hTw := bT.lt
        have hOw := hS.own
        have hBw := hS.below
        clear hS hl
        go_wp2_with ((refine wpList_append_src rfl (.tmp 120) (.tmp 122) 33 rfl w.heap.size 32 i0 (.agg #[.int .i64 0, .int .i64 0, .int .i64 0, .int .i64 0, .int .i64 0, .int .i64 0, .bool false]) 7 56 Try.underlying33 hi hz0 hz1 hz2 rfl (by decide) u7 m (ys.flatMap LineT.f) rfl OW.out (.slice (some ⟨wc.heap.size, 0, none⟩) 1 1) 1 l.f rfl SR.out rfl (LineT.one _) (by unfold maxLen; omega) (by omega) BS.out ?_; intro v' w2 ow gr ob))
        go_roundw
        case rel => exact ⟨k + 1, m + 1, by omega, by go_num, by omega, by rw [HY2.out]; simp [hlen], by rw [HY2.out]; exact own_more _ ow, below_grown (below_alloc hBw _) gr (fun k h => (hOw.lt k h).1), (bT.alloc _).same (gr.block gT (by simp; omega) (fun e => HTV.out e.symm)), fun e => by
          rcases ob with h | h
          · exact HTV.out (h ▸ e)
          · rw [h] at e
            injection e with e
            simp at e
            omega⟩
        case measure => simp [intOf]; omega
  · obtain rfl : k = n := by omega
    have e : p.take k = p := by rw [← HN.out]; exact List.take_length
    unfold ofY at hlen hO
    rw [e] at hlen hO
    have HO : Hid (wr.ownsRow w.heap.size 32 7 u7 m ((theLines (ofLines z0 z1 z2 z3 z4 z5 0 p)).flatMap LineT.f)) := hO
    have HLn : Hid ((theLines (ofLines z0 z1 z2 z3 z4 z5 0 p)).length = m) := hlen
    clear hO bT hlen e
    go_wp2
    go_ret
    exact ⟨_, ofLines z0 z1 z2 z3 z4 z5 0 p, rfl, ofLines_for hB z0 z1 z2 z3 z4 z5 p 0 hW, by rw [HLn.out]; exact HO.out, hBw⟩
end Go.Proofs.Ytoijgognbfifbaa
