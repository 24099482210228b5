/-
  Package pool: the walk of after: a loan behind a line.
-/
import Derived.Test.YtoijgognbfifbaaPoolF
namespace Go.Proofs.Ytoijgognbfifbaa
open Go.RowKit

/-- What after tells. -/
def afterV (o : LoanP) (x : LineT) : Value := if mayP o x then .tuple #[(doP o x).v, (aggP o x).v, .bool true] else .tuple #[LoanP.zero.v, AggP.zero.v, .bool false]

theorem blk_at (w : World) (t : TypeId) (cs : List Value) (n : Nat) (e : w.heap.size = n) : Blk (w.alloc (.cells cs.toArray t)) n t cs := by
  subst e
  exact Blk.fresh w t cs
/-- What after has in memory: the loan, the line, what it tells of both. -/
structure AftM (w wx : World) (g0 g1 g2 g3 : Nat) (l : LoanP) (x : LineT) (r : LoanP) (a : AggP) : Prop where
  below : Below w.heap.size w wx
  low : w.heap.size = g0
  n1 : g0 + 1 = g1
  n2 : g1 + 1 = g2
  n3 : g2 + 1 = g3
  n4 : g3 < wx.heap.size
  b0 : Blk wx g0 58 l.f
  b1 : Blk wx g1 32 x.f
  b2 : Blk wx g2 58 r.f
  b3 : Blk wx g3 27 a.f
theorem AftM.then {w wx wy : World} {g0 g1 g2 g3 : Nat} {l r : LoanP} {x : LineT} {a : AggP} (h : AftM w wx g0 g1 g2 g3 l x r a) (b : Below wx.heap.size wx wy) : AftM w wy g0 g1 g2 g3 l x r a :=
  ⟨below_then h.below b, h.low, h.n1, h.n2, h.n3, Nat.lt_of_lt_of_le h.n4 b.size, h.b0.then b, h.b1.then b, h.b2.then b, h.b3.then b⟩
theorem AftM.ne {w wx : World} {g0 g1 g2 g3 : Nat} {l r : LoanP} {x : LineT} {a : AggP} (h : AftM w wx g0 g1 g2 g3 l x r a) : w.heap.size ≤ g0 ∧ w.heap.size ≤ g2 ∧ w.heap.size ≤ g3 ∧ g0 ≠ g1 ∧ g1 ≠ g0 ∧ g0 ≠ g2 ∧ g0 ≠ g3 ∧ g1 ≠ g2 ∧ g1 ≠ g3 ∧ g2 ≠ g3 ∧ g3 ≠ g2 ∧ g2 ≠ g0 ∧ g3 ≠ g0 ∧ g0 < wx.heap.size ∧ g1 < wx.heap.size ∧ g2 < wx.heap.size ∧ g3 < wx.heap.size := by
  obtain ⟨_, h0, h1, h2, h3, h4, _, _, _, _⟩ := h
  omega

theorem Blk.put4 {w : World} {g : Nat} {t : TypeId} {a b c d : Value} (h : Blk w g t [a, b, c, d]) (u0 u1 u2 u3 : Value) :
    Blk ((((w.setCell ⟨g, 0, none⟩ u0).setCell ⟨g, 1, none⟩ u1).setCell ⟨g, 2, none⟩ u2).setCell ⟨g, 3, none⟩ u3) g t [u0, u1, u2, u3] := (((h.set 0 u0).set 1 u1).set 2 u2).set 3 u3
theorem Blk.put5 {w : World} {g : Nat} {t : TypeId} {a b c d e : Value} (h : Blk w g t [a, b, c, d, e]) (u0 u1 u2 u3 u4 : Value) :
    Blk (((((w.setCell ⟨g, 0, none⟩ u0).setCell ⟨g, 1, none⟩ u1).setCell ⟨g, 2, none⟩ u2).setCell ⟨g, 3, none⟩ u3).setCell ⟨g, 4, none⟩ u4) g t [u0, u1, u2, u3, u4] := ((((h.set 0 u0).set 1 u1).set 2 u2).set 3 u3).set 4 u4
theorem Rest.put4 (g : Nat) (w : World) (u0 u1 u2 u3 : Value) : Rest g w ((((w.setCell ⟨g, 0, none⟩ u0).setCell ⟨g, 1, none⟩ u1).setCell ⟨g, 2, none⟩ u2).setCell ⟨g, 3, none⟩ u3) := (((Rest.set g 0 w u0).trans (Rest.set g 1 _ u1)).trans (Rest.set g 2 _ u2)).trans (Rest.set g 3 _ u3)
theorem Rest.put5 (g : Nat) (w : World) (u0 u1 u2 u3 u4 : Value) : Rest g w (((((w.setCell ⟨g, 0, none⟩ u0).setCell ⟨g, 1, none⟩ u1).setCell ⟨g, 2, none⟩ u2).setCell ⟨g, 3, none⟩ u3).setCell ⟨g, 4, none⟩ u4) := (Rest.put4 g w u0 u1 u2 u3).trans (Rest.set g 4 _ u4)
/-- What is told of both, stored: the loan first, then what the line came to. -/
theorem AftM.told {w X : World} {g0 g1 g2 g3 : Nat} {l r : LoanP} {x : LineT} {a : AggP} (h : AftM w X g0 g1 g2 g3 l x r a) (u0 u1 u2 u3 u4 v0 v1 v2 v3 : Value) (Y : World)
    (hY : Y = (((((((((X.setCell ⟨g2, 0, none⟩ u0).setCell ⟨g2, 1, none⟩ u1).setCell ⟨g2, 2, none⟩ u2).setCell ⟨g2, 3, none⟩ u3).setCell ⟨g2, 4, none⟩ u4).setCell ⟨g3, 0, none⟩ v0).setCell ⟨g3, 1, none⟩ v1).setCell ⟨g3, 2, none⟩ v2).setCell ⟨g3, 3, none⟩ v3)) :
    Below w.heap.size w Y ∧ Blk Y g2 58 [u0, u1, u2, u3, u4] ∧ Blk Y g3 27 [v0, v1, v2, v3] := by
  subst hY
  obtain ⟨e0, e2, e3, n01, n10, n02, n03, n12, n13, n23, n32, n20, n30, s0, s1, s2, s3⟩ := h.ne
  have q := (Rest.put5 g2 X u0 u1 u2 u3 u4).below h.below e2 h.below.size
  exact ⟨(Rest.put4 g3 _ v0 v1 v2 v3).below q e3 q.size, (h.b2.put5 u0 u1 u2 u3 u4).rest (Rest.put4 g3 _ v0 v1 v2 v3) n23, (h.b3.rest (Rest.put5 g2 X u0 u1 u2 u3 u4) n32).put4 v0 v1 v2 v3⟩
theorem aft_results {g2 g3 : Nat} {L : LoanP} {A : AggP} {ok : Bool} {tmps : Array Value} {Y : World} (h4 : tmps[4]?.getD undef = .pointer (some ⟨g2, 0, none⟩)) (h5 : tmps[5]?.getD undef = .pointer (some ⟨g3, 0, none⟩)) (h6 : tmps[6]?.getD undef = .bool ok)
    (k2 : Blk Y g2 58 L.f) (k3 : Blk Y g3 27 A.f) : (results Try.f26 tmps).run Try.prog Y = .ok (.tuple #[L.v, A.v, .bool ok]) Y := by
  have z0 := k2.cell 0 _ rfl
  have z1 := k2.cell 1 _ rfl
  have z2 := k2.cell 2 _ rfl
  have z3 := k2.cell 3 _ rfl
  have z4 := k2.cell 4 _ rfl
  have y0 := k3.cell 0 _ rfl
  have y1 := k3.cell 1 _ rfl
  have y2 := k3.cell 2 _ rfl
  have y3 := k3.cell 3 _ rfl
  simp [results, Try.results26, go_sem, h4, h5, h6, z0, z1, z2, z3, z4, y0, y1, y2, y3, LoanP.v, AggP.v]
/-- The end. -/
theorem AftM.fin {w X : World} {g0 g1 g2 g3 : Nat} {l r : LoanP} {x : LineT} {a : AggP} (h : AftM w X g0 g1 g2 g3 l x r a) (L : LoanP) (A : AggP) (ok : Bool) (tmps : Array Value) (h4 : tmps[4]?.getD undef = .pointer (some ⟨g2, 0, none⟩)) (h5 : tmps[5]?.getD undef = .pointer (some ⟨g3, 0, none⟩)) (h6 : tmps[6]?.getD undef = .bool ok) :
    bodyPost Try.prog Try.f26 (fun e w' => e = .returned (.tuple #[L.v, A.v, .bool ok]) ∧ Below w.heap.size w w') Exit.ret { tmps := tmps, defers := [] } (((((((((X.setCell ⟨g2, 0, none⟩ (.int .i64 L.id)).setCell ⟨g2, 1, none⟩ (.int .i64 L.bal)).setCell ⟨g2, 2, none⟩ (.int .i64 L.lost)).setCell ⟨g2, 3, none⟩ (.int .i64 L.late)).setCell ⟨g2, 4, none⟩ (.bool L.over)).setCell ⟨g3, 0, none⟩ (.int .i64 A.pr)).setCell ⟨g3, 1, none⟩ (.int .i64 A.it)).setCell ⟨g3, 2, none⟩ (.int .i64 A.ls)).setCell ⟨g3, 3, none⟩ (.int .i64 A.rc)) := by
  obtain ⟨q, k2, k3⟩ := h.told (.int .i64 L.id) (.int .i64 L.bal) (.int .i64 L.lost) (.int .i64 L.late) (.bool L.over) (.int .i64 A.pr) (.int .i64 A.it) (.int .i64 A.ls) (.int .i64 A.rc) _ rfl
  exact bodyPost_ret (aft_results h4 h5 h6 k2 k3) rfl ⟨rfl, q⟩
theorem AftM.fin2 {w X : World} {g0 g1 g2 g3 : Nat} {l r : LoanP} {x : LineT} {a : AggP} (h : AftM w X g0 g1 g2 g3 l x r a) (L : LoanP) (A : AggP) (ok : Bool) (tmps : Array Value) (h4 : tmps[4]?.getD undef = .pointer (some ⟨g2, 0, none⟩)) (h5 : tmps[5]?.getD undef = .pointer (some ⟨g3, 0, none⟩)) (h6 : tmps[6]?.getD undef = .bool ok) :
    bodyPost Try.prog Try.f26 (fun e w' => e = .returned (.tuple #[L.v, A.v, .bool ok]) ∧ Below w.heap.size w w') Exit.ret { tmps := tmps, defers := [] } (((((((((X.setCell ⟨g2, 0, none⟩ (.int .i64 L.id)).setCell ⟨g2, 1, none⟩ (.int .i64 L.bal)).setCell ⟨g2, 2, none⟩ (.int .i64 L.lost)).setCell ⟨g2, 3, none⟩ (.int .i64 L.late)).setCell ⟨g2, 4, none⟩ (.bool L.over)).setCell ⟨g3, 0, none⟩ (.int .i64 A.pr)).setCell ⟨g3, 1, none⟩ (.int .i64 A.it)).setCell ⟨g3, 2, none⟩ (.int .i64 A.ls)).setCell ⟨g3, 3, none⟩ (.int .i64 A.rc)).drew := by
  obtain ⟨q, k2, k3⟩ := h.told (.int .i64 L.id) (.int .i64 L.bal) (.int .i64 L.lost) (.int .i64 L.late) (.bool L.over) (.int .i64 A.pr) (.int .i64 A.it) (.int .i64 A.ls) (.int .i64 A.rc) _ rfl
  exact bodyPost_ret (aft_results h4 h5 h6 k2.drew k3.drew) rfl ⟨rfl, q.drew⟩
theorem afterV_yes {o : LoanP} {x : LineT} {V : Value} (h : afterV o x = V) (hm : mayP o x = true) (l : LoanP) (hl : doP o x = l) (a : AggP) (ha : aggP o x = a) : V = .tuple #[l.v, a.v, .bool true] := by
  rw [← h, afterV, hm, hl, ha]
  rfl
/-- The same, what the line came to beside it. -/
structure AftN (w wx : World) (g0 g1 g2 g3 g4 : Nat) (l : LoanP) (x : LineT) (a : AggP) : Prop where
  m : AftM w wx g0 g1 g2 g3 l x LoanP.zero AggP.zero
  n5 : g3 < g4
  s4 : g4 < wx.heap.size
  b4 : Blk wx g4 27 a.f
theorem AftN.ne {w wx : World} {g0 g1 g2 g3 g4 : Nat} {l : LoanP} {x : LineT} {a : AggP} (h : AftN w wx g0 g1 g2 g3 g4 l x a) : g4 ≠ g0 ∧ g4 ≠ g1 ∧ g4 ≠ g2 ∧ g4 ≠ g3 ∧ g0 ≠ g4 ∧ g1 ≠ g4 ∧ g2 ≠ g4 ∧ g3 ≠ g4 := by
  obtain ⟨⟨_, h0, h1, h2, h3, h4, _, _, _, _⟩, h5, _, _⟩ := h
  omega
theorem AftM.make {w X : World} {g0 g1 g2 g3 : Nat} {l l' : LoanP} {x : LineT} (h : AftM w X g0 g1 g2 g3 l x LoanP.zero AggP.zero) (b : Int) (e : l'.f = l.f.set 1 (.int .i64 b)) (a : AggP) :
    AftN w ((X.setCell ⟨g0, 1, none⟩ (.int .i64 b)).alloc (.cells a.f.toArray 27)) g0 g1 g2 g3 X.heap.size l' x a := by
  obtain ⟨e0, e2, e3, n01, n10, n02, n03, n12, n13, n23, n32, n20, n30, s0, s1, s2, s3⟩ := h.ne
  refine ⟨⟨below_alloc (h.below.setCell e0 _) _, h.low, h.n1, h.n2, h.n3, by simp; omega, ?_, (h.b1.set_other _ _ n10 _).alloc _, (h.b2.set_other _ _ n20 _).alloc _, (h.b3.set_other _ _ n30 _).alloc _⟩, s3, by simp, blk_at _ _ _ _ (by simp)⟩
  rw [e]
  exact (h.b0.set _ _).alloc _
theorem AftN.set {w X : World} {g0 g1 g2 g3 g4 : Nat} {l : LoanP} {x : LineT} {a : AggP} (h : AftN w X g0 g1 g2 g3 g4 l x a) (j : Nat) (u : Value) (l' : LoanP) (e : l'.f = l.f.set j u) :
    AftN w (X.setCell ⟨g0, j, none⟩ u) g0 g1 g2 g3 g4 l' x a := by
  obtain ⟨e0, e2, e3, n01, n10, n02, n03, n12, n13, n23, n32, n20, n30, s0, s1, s2, s3⟩ := h.m.ne
  obtain ⟨m40, m41, m42, m43, m04, m14, m24, m34⟩ := h.ne
  refine ⟨⟨h.m.below.setCell e0 _, h.m.low, h.m.n1, h.m.n2, h.m.n3, by simpa using h.m.n4, ?_, h.m.b1.set_other _ _ n10 _, h.m.b2.set_other _ _ n20 _, h.m.b3.set_other _ _ n30 _⟩, h.n5, by simpa using h.s4, h.b4.set_other _ _ m40 _⟩
  rw [e]
  exact h.m.b0.set _ _
theorem AftN.set4 {w X : World} {g0 g1 g2 g3 g4 : Nat} {l : LoanP} {x : LineT} {a : AggP} (h : AftN w X g0 g1 g2 g3 g4 l x a) (j : Nat) (u : Value) (a' : AggP) (e : a'.f = a.f.set j u) :
    AftN w (X.setCell ⟨g4, j, none⟩ u) g0 g1 g2 g3 g4 l x a' := by
  obtain ⟨e0, e2, e3, n01, n10, n02, n03, n12, n13, n23, n32, n20, n30, s0, s1, s2, s3⟩ := h.m.ne
  obtain ⟨m40, m41, m42, m43, m04, m14, m24, m34⟩ := h.ne
  refine ⟨⟨h.m.below.setCell (show w.heap.size ≤ g4 by have := h.n5; omega) _, h.m.low, h.m.n1, h.m.n2, h.m.n3, by simpa using h.m.n4, h.m.b0.set_other _ _ m04 _, h.m.b1.set_other _ _ m14 _, h.m.b2.set_other _ _ m24 _, h.m.b3.set_other _ _ m34 _⟩, h.n5, by simpa using h.s4, ?_⟩
  rw [e]
  exact h.b4.set _ _
theorem afterV_no {o : LoanP} {x : LineT} {V : Value} (h : afterV o x = V) (hm : mayP o x = false) : V = .tuple #[LoanP.zero.v, AggP.zero.v, .bool false] := by
  rw [← h, afterV, hm]
  rfl

set_option maxHeartbeats 2000000 in
theorem after_any (o : LoanP) (x : LineT) (B : Int) (hW : o.Wf B) (hx : x.ok = true) (hB : B ≤ 2199023255552) (w : World) :
    Calls Try.prog 26 #[o.v, x.v] w fun e w' => e = .returned (afterV o x) ∧ Below w.heap.size w w' := by
  obtain ⟨V, hV⟩ : ∃ V, afterV o x = V := ⟨_, rfl⟩
  rw [hV]
  have HV : Hid (afterV o x = V) := hV
  clear hV
  obtain ⟨id, bal, lost, late, over⟩ := o
  obtain ⟨xid, pr, pp, it, rc, lt, df⟩ := x
  obtain ⟨hA, t0, t1⟩ := (LineT.ok_iff _).1 hx
  obtain ⟨p0, p1, q0, q1, i0, i1, rr0, rr1⟩ := hA
  obtain ⟨bb0, bb1, l0, l1, hc, hg, -, -, -⟩ := hW
  simp only at p0 p1 q0 q1 i0 i1 rr0 rr1 t0 t1 bb0 bb1 l0 l1 hc hg
  unfold LoanP.v LineT.v
  go_enter Try.func26, Try.ntmps26
  go_upto_region 1 with fail
  refine wp_letter (fun wx => ∃ g0 g1 g2 g3, w.heap.size = g0 ∧ g0 + 1 = g1 ∧ g1 + 1 = g2 ∧ g2 + 1 = g3 ∧ AftM w wx g0 g1 g2 g3 ⟨id, bal, lost, late, over⟩ ⟨xid, pr, pp, it, rc, lt, df⟩ LoanP.zero AggP.zero) ⟨_, _, _, _, rfl, rfl, rfl, rfl, below_alloc (below_alloc (below_alloc (below_alloc (Below.refl _ _) _) _) _) _, rfl, rfl, rfl, rfl, by simp, (((Blk.fresh _ _ _).alloc _).alloc _).alloc _, ((blk_at _ _ _ _ (by simp)).alloc _).alloc _, (blk_at _ _ LoanP.zero.f _ (by simp)).alloc _, blk_at _ _ AggP.zero.f _ (by simp)⟩ ?_
  rintro W ⟨g0, g1, g2, g3, k0, k1, k2, k3, hM⟩
  rw [k0, k1, k2, k3]
  clear k0 k1 k2 k3
  cases over with
  | true =>
    obtain rfl : bal = 0 := hg rfl
    cases hr : recP ⟨xid, pr, pp, it, rc, lt, df⟩ with
    | false =>
      have HR : Hid (recP ⟨xid, pr, pp, it, rc, lt, df⟩ = false) := hr
      (obtain ⟨e0, e2, e3, n01, n10, n02, n03, n12, n13, n23, n32, n20, n30, s0, s1, s2, s3⟩ := (hM).ne; have c0 := (hM).b0.cell 0 _ rfl; have c1 := (hM).b0.cell 1 _ rfl; have c2 := (hM).b0.cell 2 _ rfl; have c3 := (hM).b0.cell 3 _ rfl; have c4 := (hM).b0.cell 4 _ rfl; have x0 := (hM).b1.cell 0 _ rfl; have x1 := (hM).b1.cell 1 _ rfl; have x2 := (hM).b1.cell 2 _ rfl; have x3 := (hM).b1.cell 3 _ rfl; have x4 := (hM).b1.cell 4 _ rfl; have x5 := (hM).b1.cell 5 _ rfl; have x6 := (hM).b1.cell 6 _ rfl; have r0 := (hM).b2.cell 0 _ rfl; have r1 := (hM).b2.cell 1 _ rfl; have r2 := (hM).b2.cell 2 _ rfl; have r3 := (hM).b2.cell 3 _ rfl; have r4 := (hM).b2.cell 4 _ rfl; have a0 := (hM).b3.cell 0 _ rfl; have a1 := (hM).b3.cell 1 _ rfl; have a2 := (hM).b3.cell 2 _ rfl; have a3 := (hM).b3.cell 3 _ rfl; have f00 := (hM).b0.frozen 0; have f01 := (hM).b0.frozen 1; have f02 := (hM).b0.frozen 2; have f03 := (hM).b0.frozen 3; have f04 := (hM).b0.frozen 4; have f20 := (hM).b2.frozen 0; have f21 := (hM).b2.frozen 1; have f22 := (hM).b2.frozen 2; have f23 := (hM).b2.frozen 3; have f24 := (hM).b2.frozen 4; have f30 := (hM).b3.frozen 0; have f31 := (hM).b3.frozen 1; have f32 := (hM).b3.frozen 2; have f33 := (hM).b3.frozen 3; simp only at c0 c1 c2 c3 c4 x0 x1 x2 x3 x4 x5 x6 r0 r1 r2 r3 r4 a0 a1 a2 a3)
      go_upto_region 2 with (go_at_call 33; refine (rec_any ⟨xid, pr, pp, it, rc, lt, df⟩ _).mono ?_; rintro e w2 ⟨rfl, d⟩; rw [HR.out])
      (clear e0 e2 e3 n01 n10 n02 n03 n12 n13 n23 n32 n20 n30 s0 s1 s2 s3 c0 c1 c2 c3 c4 x0 x1 x2 x3 x4 x5 x6 r0 r1 r2 r3 r4 a0 a1 a2 a3 f00 f01 f02 f03 f04 f20 f21 f22 f23 f24 f30 f31 f32 f33)
      replace hM := hM.then d
      clear d
      (obtain ⟨e0, e2, e3, n01, n10, n02, n03, n12, n13, n23, n32, n20, n30, s0, s1, s2, s3⟩ := (hM).ne; have c0 := (hM).b0.cell 0 _ rfl; have c1 := (hM).b0.cell 1 _ rfl; have c2 := (hM).b0.cell 2 _ rfl; have c3 := (hM).b0.cell 3 _ rfl; have c4 := (hM).b0.cell 4 _ rfl; have x0 := (hM).b1.cell 0 _ rfl; have x1 := (hM).b1.cell 1 _ rfl; have x2 := (hM).b1.cell 2 _ rfl; have x3 := (hM).b1.cell 3 _ rfl; have x4 := (hM).b1.cell 4 _ rfl; have x5 := (hM).b1.cell 5 _ rfl; have x6 := (hM).b1.cell 6 _ rfl; have r0 := (hM).b2.cell 0 _ rfl; have r1 := (hM).b2.cell 1 _ rfl; have r2 := (hM).b2.cell 2 _ rfl; have r3 := (hM).b2.cell 3 _ rfl; have r4 := (hM).b2.cell 4 _ rfl; have a0 := (hM).b3.cell 0 _ rfl; have a1 := (hM).b3.cell 1 _ rfl; have a2 := (hM).b3.cell 2 _ rfl; have a3 := (hM).b3.cell 3 _ rfl; have f00 := (hM).b0.frozen 0; have f01 := (hM).b0.frozen 1; have f02 := (hM).b0.frozen 2; have f03 := (hM).b0.frozen 3; have f04 := (hM).b0.frozen 4; have f20 := (hM).b2.frozen 0; have f21 := (hM).b2.frozen 1; have f22 := (hM).b2.frozen 2; have f23 := (hM).b2.frozen 3; have f24 := (hM).b2.frozen 4; have f30 := (hM).b3.frozen 0; have f31 := (hM).b3.frozen 1; have f32 := (hM).b3.frozen 2; have f33 := (hM).b3.frozen 3; simp only at c0 c1 c2 c3 c4 x0 x1 x2 x3 x4 x5 x6 r0 r1 r2 r3 r4 a0 a1 a2 a3)
      have hv := afterV_no HV.out (by simp [mayP, kindP_rec, hr])
      subst hv
      (go_wp2; exact (hM).fin LoanP.zero AggP.zero false _ rfl rfl rfl)
    | true =>
      have HR : Hid (recP ⟨xid, pr, pp, it, rc, lt, df⟩ = true) := hr
      have h2 : (pr = 0 ∧ pp = 0 ∧ it = 0 ∧ lt = 0) ∧ df = false := by simpa [recP] using hr
      obtain ⟨⟨rfl, rfl, rfl, rfl⟩, rfl⟩ := h2
      clear hr
      (obtain ⟨e0, e2, e3, n01, n10, n02, n03, n12, n13, n23, n32, n20, n30, s0, s1, s2, s3⟩ := (hM).ne; have c0 := (hM).b0.cell 0 _ rfl; have c1 := (hM).b0.cell 1 _ rfl; have c2 := (hM).b0.cell 2 _ rfl; have c3 := (hM).b0.cell 3 _ rfl; have c4 := (hM).b0.cell 4 _ rfl; have x0 := (hM).b1.cell 0 _ rfl; have x1 := (hM).b1.cell 1 _ rfl; have x2 := (hM).b1.cell 2 _ rfl; have x3 := (hM).b1.cell 3 _ rfl; have x4 := (hM).b1.cell 4 _ rfl; have x5 := (hM).b1.cell 5 _ rfl; have x6 := (hM).b1.cell 6 _ rfl; have r0 := (hM).b2.cell 0 _ rfl; have r1 := (hM).b2.cell 1 _ rfl; have r2 := (hM).b2.cell 2 _ rfl; have r3 := (hM).b2.cell 3 _ rfl; have r4 := (hM).b2.cell 4 _ rfl; have a0 := (hM).b3.cell 0 _ rfl; have a1 := (hM).b3.cell 1 _ rfl; have a2 := (hM).b3.cell 2 _ rfl; have a3 := (hM).b3.cell 3 _ rfl; have f00 := (hM).b0.frozen 0; have f01 := (hM).b0.frozen 1; have f02 := (hM).b0.frozen 2; have f03 := (hM).b0.frozen 3; have f04 := (hM).b0.frozen 4; have f20 := (hM).b2.frozen 0; have f21 := (hM).b2.frozen 1; have f22 := (hM).b2.frozen 2; have f23 := (hM).b2.frozen 3; have f24 := (hM).b2.frozen 4; have f30 := (hM).b3.frozen 0; have f31 := (hM).b3.frozen 1; have f32 := (hM).b3.frozen 2; have f33 := (hM).b3.frozen 3; simp only at c0 c1 c2 c3 c4 x0 x1 x2 x3 x4 x5 x6 r0 r1 r2 r3 r4 a0 a1 a2 a3)
      go_upto_region 3 with (go_at_call 33; refine (rec_any ⟨xid, 0, 0, 0, rc, 0, false⟩ _).mono ?_; rintro e w2 ⟨rfl, d⟩; rw [HR.out])
      (clear e0 e2 e3 n01 n10 n02 n03 n12 n13 n23 n32 n20 n30 s0 s1 s2 s3 c0 c1 c2 c3 c4 x0 x1 x2 x3 x4 x5 x6 r0 r1 r2 r3 r4 a0 a1 a2 a3 f00 f01 f02 f03 f04 f20 f21 f22 f23 f24 f30 f31 f32 f33)
      replace hM := hM.then d
      clear d
      (obtain ⟨e0, e2, e3, n01, n10, n02, n03, n12, n13, n23, n32, n20, n30, s0, s1, s2, s3⟩ := (hM).ne; have c0 := (hM).b0.cell 0 _ rfl; have c1 := (hM).b0.cell 1 _ rfl; have c2 := (hM).b0.cell 2 _ rfl; have c3 := (hM).b0.cell 3 _ rfl; have c4 := (hM).b0.cell 4 _ rfl; have x0 := (hM).b1.cell 0 _ rfl; have x1 := (hM).b1.cell 1 _ rfl; have x2 := (hM).b1.cell 2 _ rfl; have x3 := (hM).b1.cell 3 _ rfl; have x4 := (hM).b1.cell 4 _ rfl; have x5 := (hM).b1.cell 5 _ rfl; have x6 := (hM).b1.cell 6 _ rfl; have r0 := (hM).b2.cell 0 _ rfl; have r1 := (hM).b2.cell 1 _ rfl; have r2 := (hM).b2.cell 2 _ rfl; have r3 := (hM).b2.cell 3 _ rfl; have r4 := (hM).b2.cell 4 _ rfl; have a0 := (hM).b3.cell 0 _ rfl; have a1 := (hM).b3.cell 1 _ rfl; have a2 := (hM).b3.cell 2 _ rfl; have a3 := (hM).b3.cell 3 _ rfl; have f00 := (hM).b0.frozen 0; have f01 := (hM).b0.frozen 1; have f02 := (hM).b0.frozen 2; have f03 := (hM).b0.frozen 3; have f04 := (hM).b0.frozen 4; have f20 := (hM).b2.frozen 0; have f21 := (hM).b2.frozen 1; have f22 := (hM).b2.frozen 2; have f23 := (hM).b2.frozen 3; have f24 := (hM).b2.frozen 4; have f30 := (hM).b3.frozen 0; have f31 := (hM).b3.frozen 1; have f32 := (hM).b3.frozen 2; have f33 := (hM).b3.frozen 3; simp only at c0 c1 c2 c3 c4 x0 x1 x2 x3 x4 x5 x6 r0 r1 r2 r3 r4 a0 a1 a2 a3)
      go_upto_region 8 with fail
      refine wp_letter (fun wx => ∃ g4, w2.heap.size = g4 ∧ AftN w wx g0 g1 g2 g3 g4 ⟨id, 0, lost, late, true⟩ ⟨xid, 0, 0, 0, rc, 0, false⟩ ⟨0, 0, 0, rc⟩) ⟨_, rfl, hM.make 0 rfl ⟨0, 0, 0, rc⟩⟩ ?_
      (clear e0 e2 e3 n01 n10 n02 n03 n12 n13 n23 n32 n20 n30 s0 s1 s2 s3 c0 c1 c2 c3 c4 x0 x1 x2 x3 x4 x5 x6 r0 r1 r2 r3 r4 a0 a1 a2 a3 f00 f01 f02 f03 f04 f20 f21 f22 f23 f24 f30 f31 f32 f33)
      clear hM
      rintro X ⟨g4, eg, hN⟩
      rw [eg]
      have hM := hN.m
      (obtain ⟨e0, e2, e3, n01, n10, n02, n03, n12, n13, n23, n32, n20, n30, s0, s1, s2, s3⟩ := (hM).ne; have c0 := (hM).b0.cell 0 _ rfl; have c1 := (hM).b0.cell 1 _ rfl; have c2 := (hM).b0.cell 2 _ rfl; have c3 := (hM).b0.cell 3 _ rfl; have c4 := (hM).b0.cell 4 _ rfl; have x0 := (hM).b1.cell 0 _ rfl; have x1 := (hM).b1.cell 1 _ rfl; have x2 := (hM).b1.cell 2 _ rfl; have x3 := (hM).b1.cell 3 _ rfl; have x4 := (hM).b1.cell 4 _ rfl; have x5 := (hM).b1.cell 5 _ rfl; have x6 := (hM).b1.cell 6 _ rfl; have r0 := (hM).b2.cell 0 _ rfl; have r1 := (hM).b2.cell 1 _ rfl; have r2 := (hM).b2.cell 2 _ rfl; have r3 := (hM).b2.cell 3 _ rfl; have r4 := (hM).b2.cell 4 _ rfl; have a0 := (hM).b3.cell 0 _ rfl; have a1 := (hM).b3.cell 1 _ rfl; have a2 := (hM).b3.cell 2 _ rfl; have a3 := (hM).b3.cell 3 _ rfl; have f00 := (hM).b0.frozen 0; have f01 := (hM).b0.frozen 1; have f02 := (hM).b0.frozen 2; have f03 := (hM).b0.frozen 3; have f04 := (hM).b0.frozen 4; have f20 := (hM).b2.frozen 0; have f21 := (hM).b2.frozen 1; have f22 := (hM).b2.frozen 2; have f23 := (hM).b2.frozen 3; have f24 := (hM).b2.frozen 4; have f30 := (hM).b3.frozen 0; have f31 := (hM).b3.frozen 1; have f32 := (hM).b3.frozen 2; have f33 := (hM).b3.frozen 3; simp only at c0 c1 c2 c3 c4 x0 x1 x2 x3 x4 x5 x6 r0 r1 r2 r3 r4 a0 a1 a2 a3)
      (obtain ⟨m40, m41, m42, m43, m04, m14, m24, m34⟩ := (hN).ne; have s4 := (hN).s4; have t0 := (hN).b4.cell 0 _ rfl; have t1 := (hN).b4.cell 1 _ rfl; have t2 := (hN).b4.cell 2 _ rfl; have t3 := (hN).b4.cell 3 _ rfl; have f40 := (hN).b4.frozen 0; have f41 := (hN).b4.frozen 1; have f42 := (hN).b4.frozen 2; have f43 := (hN).b4.frozen 3; simp only at t0 t1 t2 t3)
      by_cases h5 : lost < rc
      · have hv := afterV_no HV.out (by simp [mayP, lostP]; omega)
        subst hv
        (go_wp2; exact (hM).fin LoanP.zero AggP.zero false _ rfl rfl rfl)
      · have hv := afterV_yes HV.out (by simp [mayP, kindP, lostP]; omega) ⟨id, 0, lost - rc, 0, true⟩ (by simp [doP, lostP, leftP]) ⟨0, 0, 0, rc⟩ (by simp [aggP])
        subst hv
        go_upto_region 17 with fail
        refine wp_letter (fun wx => AftN w wx g0 g1 g2 g3 g4 ⟨id, 0, lost - rc, 0, true⟩ ⟨xid, 0, 0, 0, rc, 0, false⟩ ⟨0, 0, 0, rc⟩) (((hN.set 2 _ ⟨id, 0, lost - rc, late, true⟩ rfl).set 3 _ ⟨id, 0, lost - rc, 0, true⟩ rfl).set 3 _ ⟨id, 0, lost - rc, 0, true⟩ rfl) ?_
        (clear e0 e2 e3 n01 n10 n02 n03 n12 n13 n23 n32 n20 n30 s0 s1 s2 s3 c0 c1 c2 c3 c4 x0 x1 x2 x3 x4 x5 x6 r0 r1 r2 r3 r4 a0 a1 a2 a3 f00 f01 f02 f03 f04 f20 f21 f22 f23 f24 f30 f31 f32 f33)
        (clear m40 m41 m42 m43 m04 m14 m24 m34 s4 t0 t1 t2 t3 f40 f41 f42 f43)
        clear hM hN
        rintro Y hN
        (have hM := (hN).m; (obtain ⟨e0, e2, e3, n01, n10, n02, n03, n12, n13, n23, n32, n20, n30, s0, s1, s2, s3⟩ := (hM).ne; have c0 := (hM).b0.cell 0 _ rfl; have c1 := (hM).b0.cell 1 _ rfl; have c2 := (hM).b0.cell 2 _ rfl; have c3 := (hM).b0.cell 3 _ rfl; have c4 := (hM).b0.cell 4 _ rfl; have x0 := (hM).b1.cell 0 _ rfl; have x1 := (hM).b1.cell 1 _ rfl; have x2 := (hM).b1.cell 2 _ rfl; have x3 := (hM).b1.cell 3 _ rfl; have x4 := (hM).b1.cell 4 _ rfl; have x5 := (hM).b1.cell 5 _ rfl; have x6 := (hM).b1.cell 6 _ rfl; have r0 := (hM).b2.cell 0 _ rfl; have r1 := (hM).b2.cell 1 _ rfl; have r2 := (hM).b2.cell 2 _ rfl; have r3 := (hM).b2.cell 3 _ rfl; have r4 := (hM).b2.cell 4 _ rfl; have a0 := (hM).b3.cell 0 _ rfl; have a1 := (hM).b3.cell 1 _ rfl; have a2 := (hM).b3.cell 2 _ rfl; have a3 := (hM).b3.cell 3 _ rfl; have f00 := (hM).b0.frozen 0; have f01 := (hM).b0.frozen 1; have f02 := (hM).b0.frozen 2; have f03 := (hM).b0.frozen 3; have f04 := (hM).b0.frozen 4; have f20 := (hM).b2.frozen 0; have f21 := (hM).b2.frozen 1; have f22 := (hM).b2.frozen 2; have f23 := (hM).b2.frozen 3; have f24 := (hM).b2.frozen 4; have f30 := (hM).b3.frozen 0; have f31 := (hM).b3.frozen 1; have f32 := (hM).b3.frozen 2; have f33 := (hM).b3.frozen 3; simp only at c0 c1 c2 c3 c4 x0 x1 x2 x3 x4 x5 x6 r0 r1 r2 r3 r4 a0 a1 a2 a3); (obtain ⟨m40, m41, m42, m43, m04, m14, m24, m34⟩ := (hN).ne; have s4 := (hN).s4; have t0 := (hN).b4.cell 0 _ rfl; have t1 := (hN).b4.cell 1 _ rfl; have t2 := (hN).b4.cell 2 _ rfl; have t3 := (hN).b4.cell 3 _ rfl; have f40 := (hN).b4.frozen 0; have f41 := (hN).b4.frozen 1; have f42 := (hN).b4.frozen 2; have f43 := (hN).b4.frozen 3; simp only at t0 t1 t2 t3); go_region; go_wp2; exact hM.fin2 _ _ _ _ rfl rfl rfl)
  | false =>
    obtain rfl : lost = 0 := hc rfl
    (obtain ⟨e0, e2, e3, n01, n10, n02, n03, n12, n13, n23, n32, n20, n30, s0, s1, s2, s3⟩ := (hM).ne; have c0 := (hM).b0.cell 0 _ rfl; have c1 := (hM).b0.cell 1 _ rfl; have c2 := (hM).b0.cell 2 _ rfl; have c3 := (hM).b0.cell 3 _ rfl; have c4 := (hM).b0.cell 4 _ rfl; have x0 := (hM).b1.cell 0 _ rfl; have x1 := (hM).b1.cell 1 _ rfl; have x2 := (hM).b1.cell 2 _ rfl; have x3 := (hM).b1.cell 3 _ rfl; have x4 := (hM).b1.cell 4 _ rfl; have x5 := (hM).b1.cell 5 _ rfl; have x6 := (hM).b1.cell 6 _ rfl; have r0 := (hM).b2.cell 0 _ rfl; have r1 := (hM).b2.cell 1 _ rfl; have r2 := (hM).b2.cell 2 _ rfl; have r3 := (hM).b2.cell 3 _ rfl; have r4 := (hM).b2.cell 4 _ rfl; have a0 := (hM).b3.cell 0 _ rfl; have a1 := (hM).b3.cell 1 _ rfl; have a2 := (hM).b3.cell 2 _ rfl; have a3 := (hM).b3.cell 3 _ rfl; have f00 := (hM).b0.frozen 0; have f01 := (hM).b0.frozen 1; have f02 := (hM).b0.frozen 2; have f03 := (hM).b0.frozen 3; have f04 := (hM).b0.frozen 4; have f20 := (hM).b2.frozen 0; have f21 := (hM).b2.frozen 1; have f22 := (hM).b2.frozen 2; have f23 := (hM).b2.frozen 3; have f24 := (hM).b2.frozen 4; have f30 := (hM).b3.frozen 0; have f31 := (hM).b3.frozen 1; have f32 := (hM).b3.frozen 2; have f33 := (hM).b3.frozen 3; simp only at c0 c1 c2 c3 c4 x0 x1 x2 x3 x4 x5 x6 r0 r1 r2 r3 r4 a0 a1 a2 a3)
    by_cases h1 : bal < pr + pp
    · have hv := afterV_no HV.out (by simp [mayP]; omega)
      subst hv
      (go_wp2; exact (hM).fin LoanP.zero AggP.zero false _ rfl rfl rfl)
    · go_upto_region 8 with fail
      refine wp_letter (fun wx => ∃ g4, W.heap.size = g4 ∧ AftN w wx g0 g1 g2 g3 g4 ⟨id, bal - (pr + pp), 0, late, false⟩ ⟨xid, pr, pp, it, rc, lt, df⟩ ⟨pr + pp, it, 0, rc⟩) ⟨_, rfl, hM.make (bal - (pr + pp)) rfl ⟨pr + pp, it, 0, rc⟩⟩ ?_
      (clear e0 e2 e3 n01 n10 n02 n03 n12 n13 n23 n32 n20 n30 s0 s1 s2 s3 c0 c1 c2 c3 c4 x0 x1 x2 x3 x4 x5 x6 r0 r1 r2 r3 r4 a0 a1 a2 a3 f00 f01 f02 f03 f04 f20 f21 f22 f23 f24 f30 f31 f32 f33)
      clear hM
      rintro X ⟨g4, eg, hN⟩
      rw [eg]
      have hM := hN.m
      (obtain ⟨e0, e2, e3, n01, n10, n02, n03, n12, n13, n23, n32, n20, n30, s0, s1, s2, s3⟩ := (hM).ne; have c0 := (hM).b0.cell 0 _ rfl; have c1 := (hM).b0.cell 1 _ rfl; have c2 := (hM).b0.cell 2 _ rfl; have c3 := (hM).b0.cell 3 _ rfl; have c4 := (hM).b0.cell 4 _ rfl; have x0 := (hM).b1.cell 0 _ rfl; have x1 := (hM).b1.cell 1 _ rfl; have x2 := (hM).b1.cell 2 _ rfl; have x3 := (hM).b1.cell 3 _ rfl; have x4 := (hM).b1.cell 4 _ rfl; have x5 := (hM).b1.cell 5 _ rfl; have x6 := (hM).b1.cell 6 _ rfl; have r0 := (hM).b2.cell 0 _ rfl; have r1 := (hM).b2.cell 1 _ rfl; have r2 := (hM).b2.cell 2 _ rfl; have r3 := (hM).b2.cell 3 _ rfl; have r4 := (hM).b2.cell 4 _ rfl; have a0 := (hM).b3.cell 0 _ rfl; have a1 := (hM).b3.cell 1 _ rfl; have a2 := (hM).b3.cell 2 _ rfl; have a3 := (hM).b3.cell 3 _ rfl; have f00 := (hM).b0.frozen 0; have f01 := (hM).b0.frozen 1; have f02 := (hM).b0.frozen 2; have f03 := (hM).b0.frozen 3; have f04 := (hM).b0.frozen 4; have f20 := (hM).b2.frozen 0; have f21 := (hM).b2.frozen 1; have f22 := (hM).b2.frozen 2; have f23 := (hM).b2.frozen 3; have f24 := (hM).b2.frozen 4; have f30 := (hM).b3.frozen 0; have f31 := (hM).b3.frozen 1; have f32 := (hM).b3.frozen 2; have f33 := (hM).b3.frozen 3; simp only at c0 c1 c2 c3 c4 x0 x1 x2 x3 x4 x5 x6 r0 r1 r2 r3 r4 a0 a1 a2 a3)
      (obtain ⟨m40, m41, m42, m43, m04, m14, m24, m34⟩ := (hN).ne; have s4 := (hN).s4; have t0 := (hN).b4.cell 0 _ rfl; have t1 := (hN).b4.cell 1 _ rfl; have t2 := (hN).b4.cell 2 _ rfl; have t3 := (hN).b4.cell 3 _ rfl; have f40 := (hN).b4.frozen 0; have f41 := (hN).b4.frozen 1; have f42 := (hN).b4.frozen 2; have f43 := (hN).b4.frozen 3; simp only at t0 t1 t2 t3)
      cases df with
      | true =>
        go_upto_region 11 with fail
        refine wp_letter (fun wx => AftN w wx g0 g1 g2 g3 g4 ⟨id, 0, bal - (pr + pp), late, true⟩ ⟨xid, pr, pp, it, rc, lt, true⟩ ⟨pr + pp, it, bal - (pr + pp), rc⟩) ((((hN.set4 2 _ ⟨pr + pp, it, bal - (pr + pp), rc⟩ rfl).set 2 _ ⟨id, bal - (pr + pp), bal - (pr + pp), late, false⟩ rfl).set 1 _ ⟨id, 0, bal - (pr + pp), late, false⟩ rfl).set 4 _ ⟨id, 0, bal - (pr + pp), late, true⟩ rfl) ?_
        (clear e0 e2 e3 n01 n10 n02 n03 n12 n13 n23 n32 n20 n30 s0 s1 s2 s3 c0 c1 c2 c3 c4 x0 x1 x2 x3 x4 x5 x6 r0 r1 r2 r3 r4 a0 a1 a2 a3 f00 f01 f02 f03 f04 f20 f21 f22 f23 f24 f30 f31 f32 f33)
        (clear m40 m41 m42 m43 m04 m14 m24 m34 s4 t0 t1 t2 t3 f40 f41 f42 f43)
        clear hM hN
        rintro Y hN
        have hM := hN.m
        (obtain ⟨e0, e2, e3, n01, n10, n02, n03, n12, n13, n23, n32, n20, n30, s0, s1, s2, s3⟩ := (hM).ne; have c0 := (hM).b0.cell 0 _ rfl; have c1 := (hM).b0.cell 1 _ rfl; have c2 := (hM).b0.cell 2 _ rfl; have c3 := (hM).b0.cell 3 _ rfl; have c4 := (hM).b0.cell 4 _ rfl; have x0 := (hM).b1.cell 0 _ rfl; have x1 := (hM).b1.cell 1 _ rfl; have x2 := (hM).b1.cell 2 _ rfl; have x3 := (hM).b1.cell 3 _ rfl; have x4 := (hM).b1.cell 4 _ rfl; have x5 := (hM).b1.cell 5 _ rfl; have x6 := (hM).b1.cell 6 _ rfl; have r0 := (hM).b2.cell 0 _ rfl; have r1 := (hM).b2.cell 1 _ rfl; have r2 := (hM).b2.cell 2 _ rfl; have r3 := (hM).b2.cell 3 _ rfl; have r4 := (hM).b2.cell 4 _ rfl; have a0 := (hM).b3.cell 0 _ rfl; have a1 := (hM).b3.cell 1 _ rfl; have a2 := (hM).b3.cell 2 _ rfl; have a3 := (hM).b3.cell 3 _ rfl; have f00 := (hM).b0.frozen 0; have f01 := (hM).b0.frozen 1; have f02 := (hM).b0.frozen 2; have f03 := (hM).b0.frozen 3; have f04 := (hM).b0.frozen 4; have f20 := (hM).b2.frozen 0; have f21 := (hM).b2.frozen 1; have f22 := (hM).b2.frozen 2; have f23 := (hM).b2.frozen 3; have f24 := (hM).b2.frozen 4; have f30 := (hM).b3.frozen 0; have f31 := (hM).b3.frozen 1; have f32 := (hM).b3.frozen 2; have f33 := (hM).b3.frozen 3; simp only at c0 c1 c2 c3 c4 x0 x1 x2 x3 x4 x5 x6 r0 r1 r2 r3 r4 a0 a1 a2 a3)
        (obtain ⟨m40, m41, m42, m43, m04, m14, m24, m34⟩ := (hN).ne; have s4 := (hN).s4; have t0 := (hN).b4.cell 0 _ rfl; have t1 := (hN).b4.cell 1 _ rfl; have t2 := (hN).b4.cell 2 _ rfl; have t3 := (hN).b4.cell 3 _ rfl; have f40 := (hN).b4.frozen 0; have f41 := (hN).b4.frozen 1; have f42 := (hN).b4.frozen 2; have f43 := (hN).b4.frozen 3; simp only at t0 t1 t2 t3)
        by_cases h5 : bal - (pr + pp) < rc
        · have hv := afterV_no HV.out (by simp [mayP, lostP, leftP]; omega)
          subst hv
          (go_wp2; exact (hM).fin LoanP.zero AggP.zero false _ rfl rfl rfl)
        · have hv := afterV_yes HV.out (by simp [mayP, kindP, lostP, leftP]; omega) ⟨id, 0, bal - (pr + pp) - rc, 0, true⟩ (by simp [doP, lostP, leftP]; omega) ⟨pr + pp, it, bal - (pr + pp), rc⟩ (by simp [aggP, leftP]; omega)
          subst hv
          go_upto_region 17 with fail
          refine wp_letter (fun wx => AftN w wx g0 g1 g2 g3 g4 ⟨id, 0, bal - (pr + pp) - rc, 0, true⟩ ⟨xid, pr, pp, it, rc, lt, true⟩ ⟨pr + pp, it, bal - (pr + pp), rc⟩) (((hN.set 2 _ ⟨id, 0, bal - (pr + pp) - rc, late, true⟩ rfl).set 3 _ ⟨id, 0, bal - (pr + pp) - rc, lt, true⟩ rfl).set 3 _ ⟨id, 0, bal - (pr + pp) - rc, 0, true⟩ rfl) ?_
          (clear e0 e2 e3 n01 n10 n02 n03 n12 n13 n23 n32 n20 n30 s0 s1 s2 s3 c0 c1 c2 c3 c4 x0 x1 x2 x3 x4 x5 x6 r0 r1 r2 r3 r4 a0 a1 a2 a3 f00 f01 f02 f03 f04 f20 f21 f22 f23 f24 f30 f31 f32 f33)
          (clear m40 m41 m42 m43 m04 m14 m24 m34 s4 t0 t1 t2 t3 f40 f41 f42 f43)
          clear hM hN
          rintro Z hN
          (have hM := (hN).m; (obtain ⟨e0, e2, e3, n01, n10, n02, n03, n12, n13, n23, n32, n20, n30, s0, s1, s2, s3⟩ := (hM).ne; have c0 := (hM).b0.cell 0 _ rfl; have c1 := (hM).b0.cell 1 _ rfl; have c2 := (hM).b0.cell 2 _ rfl; have c3 := (hM).b0.cell 3 _ rfl; have c4 := (hM).b0.cell 4 _ rfl; have x0 := (hM).b1.cell 0 _ rfl; have x1 := (hM).b1.cell 1 _ rfl; have x2 := (hM).b1.cell 2 _ rfl; have x3 := (hM).b1.cell 3 _ rfl; have x4 := (hM).b1.cell 4 _ rfl; have x5 := (hM).b1.cell 5 _ rfl; have x6 := (hM).b1.cell 6 _ rfl; have r0 := (hM).b2.cell 0 _ rfl; have r1 := (hM).b2.cell 1 _ rfl; have r2 := (hM).b2.cell 2 _ rfl; have r3 := (hM).b2.cell 3 _ rfl; have r4 := (hM).b2.cell 4 _ rfl; have a0 := (hM).b3.cell 0 _ rfl; have a1 := (hM).b3.cell 1 _ rfl; have a2 := (hM).b3.cell 2 _ rfl; have a3 := (hM).b3.cell 3 _ rfl; have f00 := (hM).b0.frozen 0; have f01 := (hM).b0.frozen 1; have f02 := (hM).b0.frozen 2; have f03 := (hM).b0.frozen 3; have f04 := (hM).b0.frozen 4; have f20 := (hM).b2.frozen 0; have f21 := (hM).b2.frozen 1; have f22 := (hM).b2.frozen 2; have f23 := (hM).b2.frozen 3; have f24 := (hM).b2.frozen 4; have f30 := (hM).b3.frozen 0; have f31 := (hM).b3.frozen 1; have f32 := (hM).b3.frozen 2; have f33 := (hM).b3.frozen 3; simp only at c0 c1 c2 c3 c4 x0 x1 x2 x3 x4 x5 x6 r0 r1 r2 r3 r4 a0 a1 a2 a3); (obtain ⟨m40, m41, m42, m43, m04, m14, m24, m34⟩ := (hN).ne; have s4 := (hN).s4; have t0 := (hN).b4.cell 0 _ rfl; have t1 := (hN).b4.cell 1 _ rfl; have t2 := (hN).b4.cell 2 _ rfl; have t3 := (hN).b4.cell 3 _ rfl; have f40 := (hN).b4.frozen 0; have f41 := (hN).b4.frozen 1; have f42 := (hN).b4.frozen 2; have f43 := (hN).b4.frozen 3; simp only at t0 t1 t2 t3); go_region; go_wp2; exact hM.fin2 _ _ _ _ rfl rfl rfl)
      | false =>
        by_cases h5 : 0 < rc
        · have hv := afterV_no HV.out (by simp [mayP, kindP, lostP]; omega)
          subst hv
          (go_wp2; exact (hM).fin LoanP.zero AggP.zero false _ rfl rfl rfl)
        · obtain rfl : rc = 0 := by omega
          by_cases h6 : bal - (pr + pp) = 0
          · have hv := afterV_yes HV.out (by simp [mayP, kindP, lostP]; omega) ⟨id, bal - (pr + pp), 0, 0, false⟩ (by simp [doP, lostP, leftP]; omega) ⟨pr + pp, it, 0, 0⟩ (by simp [aggP])
            subst hv
            go_upto_region 17 with fail
            refine wp_letter (fun wx => AftN w wx g0 g1 g2 g3 g4 ⟨id, bal - (pr + pp), 0, 0, false⟩ ⟨xid, pr, pp, it, 0, lt, false⟩ ⟨pr + pp, it, 0, 0⟩) (((hN.set 2 _ ⟨id, bal - (pr + pp), 0, late, false⟩ rfl).set 3 _ ⟨id, bal - (pr + pp), 0, lt, false⟩ rfl).set 3 _ ⟨id, bal - (pr + pp), 0, 0, false⟩ rfl) ?_
            (clear e0 e2 e3 n01 n10 n02 n03 n12 n13 n23 n32 n20 n30 s0 s1 s2 s3 c0 c1 c2 c3 c4 x0 x1 x2 x3 x4 x5 x6 r0 r1 r2 r3 r4 a0 a1 a2 a3 f00 f01 f02 f03 f04 f20 f21 f22 f23 f24 f30 f31 f32 f33)
            (clear m40 m41 m42 m43 m04 m14 m24 m34 s4 t0 t1 t2 t3 f40 f41 f42 f43)
            clear hM hN
            rintro Z hN
            (have hM := (hN).m; (obtain ⟨e0, e2, e3, n01, n10, n02, n03, n12, n13, n23, n32, n20, n30, s0, s1, s2, s3⟩ := (hM).ne; have c0 := (hM).b0.cell 0 _ rfl; have c1 := (hM).b0.cell 1 _ rfl; have c2 := (hM).b0.cell 2 _ rfl; have c3 := (hM).b0.cell 3 _ rfl; have c4 := (hM).b0.cell 4 _ rfl; have x0 := (hM).b1.cell 0 _ rfl; have x1 := (hM).b1.cell 1 _ rfl; have x2 := (hM).b1.cell 2 _ rfl; have x3 := (hM).b1.cell 3 _ rfl; have x4 := (hM).b1.cell 4 _ rfl; have x5 := (hM).b1.cell 5 _ rfl; have x6 := (hM).b1.cell 6 _ rfl; have r0 := (hM).b2.cell 0 _ rfl; have r1 := (hM).b2.cell 1 _ rfl; have r2 := (hM).b2.cell 2 _ rfl; have r3 := (hM).b2.cell 3 _ rfl; have r4 := (hM).b2.cell 4 _ rfl; have a0 := (hM).b3.cell 0 _ rfl; have a1 := (hM).b3.cell 1 _ rfl; have a2 := (hM).b3.cell 2 _ rfl; have a3 := (hM).b3.cell 3 _ rfl; have f00 := (hM).b0.frozen 0; have f01 := (hM).b0.frozen 1; have f02 := (hM).b0.frozen 2; have f03 := (hM).b0.frozen 3; have f04 := (hM).b0.frozen 4; have f20 := (hM).b2.frozen 0; have f21 := (hM).b2.frozen 1; have f22 := (hM).b2.frozen 2; have f23 := (hM).b2.frozen 3; have f24 := (hM).b2.frozen 4; have f30 := (hM).b3.frozen 0; have f31 := (hM).b3.frozen 1; have f32 := (hM).b3.frozen 2; have f33 := (hM).b3.frozen 3; simp only at c0 c1 c2 c3 c4 x0 x1 x2 x3 x4 x5 x6 r0 r1 r2 r3 r4 a0 a1 a2 a3); (obtain ⟨m40, m41, m42, m43, m04, m14, m24, m34⟩ := (hN).ne; have s4 := (hN).s4; have t0 := (hN).b4.cell 0 _ rfl; have t1 := (hN).b4.cell 1 _ rfl; have t2 := (hN).b4.cell 2 _ rfl; have t3 := (hN).b4.cell 3 _ rfl; have f40 := (hN).b4.frozen 0; have f41 := (hN).b4.frozen 1; have f42 := (hN).b4.frozen 2; have f43 := (hN).b4.frozen 3; simp only at t0 t1 t2 t3); go_region; go_wp2; exact hM.fin2 _ _ _ _ rfl rfl rfl)
          · have hv := afterV_yes HV.out (by simp [mayP, kindP, lostP]; omega) ⟨id, bal - (pr + pp), 0, lt, false⟩ (by simp [doP, lostP, leftP]; omega) ⟨pr + pp, it, 0, 0⟩ (by simp [aggP])
            subst hv
            go_upto_region 17 with fail
            refine wp_letter (fun wx => AftN w wx g0 g1 g2 g3 g4 ⟨id, bal - (pr + pp), 0, lt, false⟩ ⟨xid, pr, pp, it, 0, lt, false⟩ ⟨pr + pp, it, 0, 0⟩) ((hN.set 2 _ ⟨id, bal - (pr + pp), 0, late, false⟩ rfl).set 3 _ ⟨id, bal - (pr + pp), 0, lt, false⟩ rfl) ?_
            (clear e0 e2 e3 n01 n10 n02 n03 n12 n13 n23 n32 n20 n30 s0 s1 s2 s3 c0 c1 c2 c3 c4 x0 x1 x2 x3 x4 x5 x6 r0 r1 r2 r3 r4 a0 a1 a2 a3 f00 f01 f02 f03 f04 f20 f21 f22 f23 f24 f30 f31 f32 f33)
            (clear m40 m41 m42 m43 m04 m14 m24 m34 s4 t0 t1 t2 t3 f40 f41 f42 f43)
            clear hM hN
            rintro Z hN
            (have hM := (hN).m; (obtain ⟨e0, e2, e3, n01, n10, n02, n03, n12, n13, n23, n32, n20, n30, s0, s1, s2, s3⟩ := (hM).ne; have c0 := (hM).b0.cell 0 _ rfl; have c1 := (hM).b0.cell 1 _ rfl; have c2 := (hM).b0.cell 2 _ rfl; have c3 := (hM).b0.cell 3 _ rfl; have c4 := (hM).b0.cell 4 _ rfl; have x0 := (hM).b1.cell 0 _ rfl; have x1 := (hM).b1.cell 1 _ rfl; have x2 := (hM).b1.cell 2 _ rfl; have x3 := (hM).b1.cell 3 _ rfl; have x4 := (hM).b1.cell 4 _ rfl; have x5 := (hM).b1.cell 5 _ rfl; have x6 := (hM).b1.cell 6 _ rfl; have r0 := (hM).b2.cell 0 _ rfl; have r1 := (hM).b2.cell 1 _ rfl; have r2 := (hM).b2.cell 2 _ rfl; have r3 := (hM).b2.cell 3 _ rfl; have r4 := (hM).b2.cell 4 _ rfl; have a0 := (hM).b3.cell 0 _ rfl; have a1 := (hM).b3.cell 1 _ rfl; have a2 := (hM).b3.cell 2 _ rfl; have a3 := (hM).b3.cell 3 _ rfl; have f00 := (hM).b0.frozen 0; have f01 := (hM).b0.frozen 1; have f02 := (hM).b0.frozen 2; have f03 := (hM).b0.frozen 3; have f04 := (hM).b0.frozen 4; have f20 := (hM).b2.frozen 0; have f21 := (hM).b2.frozen 1; have f22 := (hM).b2.frozen 2; have f23 := (hM).b2.frozen 3; have f24 := (hM).b2.frozen 4; have f30 := (hM).b3.frozen 0; have f31 := (hM).b3.frozen 1; have f32 := (hM).b3.frozen 2; have f33 := (hM).b3.frozen 3; simp only at c0 c1 c2 c3 c4 x0 x1 x2 x3 x4 x5 x6 r0 r1 r2 r3 r4 a0 a1 a2 a3); (obtain ⟨m40, m41, m42, m43, m04, m14, m24, m34⟩ := (hN).ne; have s4 := (hN).s4; have t0 := (hN).b4.cell 0 _ rfl; have t1 := (hN).b4.cell 1 _ rfl; have t2 := (hN).b4.cell 2 _ rfl; have t3 := (hN).b4.cell 3 _ rfl; have f40 := (hN).b4.frozen 0; have f41 := (hN).b4.frozen 1; have f42 := (hN).b4.frozen 2; have f43 := (hN).b4.frozen 3; simp only at t0 t1 t2 t3); go_region; go_wp2; exact hM.fin2 _ _ _ _ rfl rfl rfl)
end Go.Proofs.Ytoijgognbfifbaa
