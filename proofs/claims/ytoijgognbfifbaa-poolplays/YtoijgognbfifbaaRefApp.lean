/-
  The document's own pool (cascaderef9): the walk of Apply; what stands on the way.
-/
import Derived.Test.YtoijgognbfifbaaRefPool
import Derived.Test.YtoijgognbfifbaaTwoRow
import Derived.Test.YtoijgognbfifbaaOrdG
namespace Go.Proofs.Ytoijgognbfifbaa
open Go.RowKit

/-- No two loans have the same Id. -/
def Uniq (q : List LoanP) : Prop := ∀ (i j : Nat) (o y : LoanP), q[i]? = some o → q[j]? = some y → o.id = y.id → i = j
theorem Uniq.at {q : List LoanP} {n : Int} {j : Nat} {o : LoanP} (h : Uniq q) (ho : q[j]? = some o) (e : o.id = n) : atP n q = some j :=
  atP_first ho e fun i y hi hy he => by
    have := h i j y o hy ho (by rw [he, e])
    omega
theorem Uniq.set {q : List LoanP} {j : Nat} {o o' : LoanP} (h : Uniq q) (ho : q[j]? = some o) (e : o'.id = o.id) : Uniq (q.set j o') := by
  have key : ∀ (i : Nat) (y : LoanP), (q.set j o')[i]? = some y → ∃ z, q[i]? = some z ∧ z.id = y.id := fun i y hy => by
    by_cases hij : j = i
    · subst hij
      have hj : j < q.length := (List.getElem?_eq_some_iff.1 ho).1
      rw [List.getElem?_set_self hj] at hy
      injection hy with hy
      subst hy
      exact ⟨o, ho, e.symm⟩
    · rw [List.getElem?_set_ne hij] at hy
      exact ⟨y, hy, rfl⟩
  intro i k y z hy hz hyz
  obtain ⟨y', h1, e1⟩ := key i y hy
  obtain ⟨z', h2, e2⟩ := key k z hz
  exact h i k y' z' h1 h2 (by rw [e1, e2, hyz])

/-- Where things lie while a line is done. -/
structure AppN (w : World) (gR gA gL gV m j : Nat) (q : List LoanP) : Prop where
  len : q.length = m
  lt : j < m
  hV : w.heap.size ≤ gV
  hA : w.heap.size ≤ gA
  rv : gR ≠ gV
  av : gA ≠ gV
  lv : gL ≠ gV
  ra : gR ≠ gA
  la : gL ≠ gA
/-- How things stand while a line is done: the loan, what came so far. -/
structure AppT (w wx : World) (gR gA gL gV cap m j : Nat) (q : List LoanP) (o : LoanP) (a : AggP) (x : LineT) : Prop where
  below : Below w.heap.size w wx
  res : Blk wx gR 49 AggP.zero.f
  agg : Blk wx gA 49 a.f
  line : Blk wx gL 32 x.f
  own : wx.ownsRow w.heap.size 46 5 (.slice (some ⟨gV, 0, none⟩) m cap) m ((q.set j o).flatMap LoanP.f)
/-- The loop over lines: what stands so far. -/
structure AppO (w wr : World) (gR gA m : Nat) (v : Value) (B : Int) (k : Nat) (q : List LoanP) (a : AggP) : Prop where
  below : Below w.heap.size w wr
  wf : ∀ o ∈ q, o.Wf B
  len : q.length = m
  bd : a.Bd (k * 2199023255552)
  uniq : Uniq q
  res : Blk wr gR 49 AggP.zero.f
  agg : Blk wr gA 49 a.f
  own : wr.ownsRow w.heap.size 46 5 v m (q.flatMap LoanP.f)
theorem AppO.then {w wr wx : World} {gR gA m k : Nat} {v : Value} {B : Int} {q : List LoanP} {a : AggP} (h : AppO w wr gR gA m v B k q a) (b : Below wr.heap.size wr wx) : AppO w wx gR gA m v B k q a :=
  ⟨below_then h.below b, h.wf, h.len, h.bd, h.uniq, h.res.then b, h.agg.then b, own_below h.own b⟩
section
variable {w wx wy : World} {gR gA gL gV cap m j : Nat} {q : List LoanP} {o : LoanP} {a : AggP} {x : LineT}
theorem AppO.one {k : Nat} {B : Int} (h : AppO w wx gR gA m (.slice (some ⟨gV, 0, none⟩) m cap) B k q a) (hl : Blk wx gL 32 x.f) (ho : q[j]? = some o) : AppT w wx gR gA gL gV cap m j q o a x := by
  refine ⟨h.below, h.res, h.agg, hl, ?_⟩
  have e : q.set j o = q := by
    obtain ⟨hj, rfl⟩ := List.getElem?_eq_some_iff.1 ho
    exact List.set_getElem_self hj
  rw [e]
  exact h.own
theorem AppT.drew (h : AppT w wx gR gA gL gV cap m j q o a x) : AppT w wx.drew gR gA gL gV cap m j q o a x := ⟨h.below.drew, h.res, h.agg, h.line, own_below h.own (Below.refl _ _).drew⟩
theorem AppT.drews (h : AppT w wx gR gA gL gV cap m j q o a x) (n : Nat) : AppT w (wx.drewN n) gR gA gL gV cap m j q o a x := ⟨below_draws h.below n, h.res, h.agg, h.line, own_below h.own (below_draws (Below.refl _ _) n)⟩
theorem AppT.put (h : AppT w wx gR gA gL gV cap m j q o a x) (n : AppN w gR gA gL gV m j q) (i : Nat) (u : Value) (o' : LoanP) (hi : i < 5) (e : o'.f = o.f.set i u) : AppT w (wx.setCell ⟨gV, j * 5 + i, none⟩ u) gR gA gL gV cap m j q o' a x := by
  have hj : j < q.length := by have := n.len; have := n.lt; omega
  have s := (h.own.stored (j * 5 + i) u).1
  rw [flat_set LoanP.len e hi (q.set j o) j (by simp [hj]), List.set_set] at s
  exact ⟨h.below.setCell n.hV _, h.res.set_other _ _ n.rv _, h.agg.set_other _ _ n.av _, h.line.set_other _ _ n.lv _, s⟩
theorem AppT.add (h : AppT w wx gR gA gL gV cap m j q o a x) (n : AppN w gR gA gL gV m j q) (i : Nat) (u : Value) (a' : AggP) (e : a'.f = a.f.set i u) : AppT w (wx.setCell ⟨gA, i, none⟩ u) gR gA gL gV cap m j q o a' x := by
  have s := h.agg.set i u
  rw [← e] at s
  refine ⟨h.below.setCell n.hA _, h.res.set_other _ _ n.ra _, s, h.line.set_other _ _ n.la _, own_same h.own fun g hg => ?_⟩
  have : gV = g := by simpa [Value.ownBlock] using hg
  subst this
  exact Below.heap_setCell _ _ _ _ (Ne.symm n.av)
theorem AppT.loan (h : AppT w wx gR gA gL gV cap m j q o a x) (n : AppN w gR gA gL gV m j q) : wx.cell? ⟨gV, j * 5, none⟩ = some (.int .i64 o.id) ∧ wx.cell? ⟨gV, j * 5 + 1, none⟩ = some (.int .i64 o.bal) ∧ wx.cell? ⟨gV, j * 5 + 2, none⟩ = some (.int .i64 o.lost) ∧ wx.cell? ⟨gV, j * 5 + 3, none⟩ = some (.int .i64 o.late) ∧ wx.cell? ⟨gV, j * 5 + 4, none⟩ = some (.bool o.over) :=
  own_loan h.own (by rw [List.length_set]; exact n.len) (by
    have hj : j < q.length := by have := n.len; have := n.lt; omega
    simp [hj])
theorem AppT.sums (h : AppT w wx gR gA gL gV cap m j q o a x) : wx.cell? ⟨gA, 0, none⟩ = some (.int .i64 a.pr) ∧ wx.cell? ⟨gA, 1, none⟩ = some (.int .i64 a.it) ∧ wx.cell? ⟨gA, 2, none⟩ = some (.int .i64 a.ls) ∧ wx.cell? ⟨gA, 3, none⟩ = some (.int .i64 a.rc) := ⟨h.agg.cell 0 _ rfl, h.agg.cell 1 _ rfl, h.agg.cell 2 _ rfl, h.agg.cell 3 _ rfl⟩
theorem AppT.ln (h : AppT w wx gR gA gL gV cap m j q o a x) : wx.cell? ⟨gL, 0, none⟩ = some (.int .i64 x.id) ∧ wx.cell? ⟨gL, 1, none⟩ = some (.int .i64 x.pr) ∧ wx.cell? ⟨gL, 2, none⟩ = some (.int .i64 x.pp) ∧ wx.cell? ⟨gL, 3, none⟩ = some (.int .i64 x.it) ∧ wx.cell? ⟨gL, 4, none⟩ = some (.int .i64 x.rc) ∧ wx.cell? ⟨gL, 5, none⟩ = some (.int .i64 x.lt) ∧ wx.cell? ⟨gL, 6, none⟩ = some (.bool x.df) :=
  ⟨h.line.cell 0 _ rfl, h.line.cell 1 _ rfl, h.line.cell 2 _ rfl, h.line.cell 3 _ rfl, h.line.cell 4 _ rfl, h.line.cell 5 _ rfl, h.line.cell 6 _ rfl⟩
end

theorem ref_results {gR : Nat} {A : AggP} {n : Int} {v : Value} {tmps : Array Value} {Y : World} (h4 : tmps[4]?.getD undef = v) (h5 : tmps[5]?.getD undef = .pointer (some ⟨gR, 0, none⟩)) (h6 : tmps[6]?.getD undef = .int .i64 n) (k : Blk Y gR 49 A.f) :
    (results Try.f16 tmps).run Try.prog Y = .ok (.tuple #[v, A.v, .int .i64 n]) Y := by
  have y0 := k.cell 0 _ rfl
  have y1 := k.cell 1 _ rfl
  have y2 := k.cell 2 _ rfl
  have y3 := k.cell 3 _ rfl
  simp [results, Try.results16, go_sem, h4, h5, h6, y0, y1, y2, y3, AggP.v]
/-- The end of a tape that may not be. -/
theorem ref_refuse {P : Prop} {R : Ending → World → Prop} {w X : World} {gR : Nat} {a b c d : Value} (hB : Below w.heap.size w X) (hR : w.heap.size ≤ gR) (k : Blk X gR 49 [a, b, c, d]) (tmps : Array Value) (h4 : tmps[4]?.getD undef = .slice none 0 0) (h5 : tmps[5]?.getD undef = .pointer (some ⟨gR, 0, none⟩)) (h6 : tmps[6]?.getD undef = .int .i64 3) (hp : P) :
    bodyPost Try.prog Try.f16 (fun e w' => (P ∧ e = .returned (.tuple #[.slice none 0 0, AggP.zero.v, .int .i64 3]) ∧ Below w.heap.size w w') ∨ R e w') Exit.ret { tmps := tmps, defers := [] } ((((X.setCell ⟨gR, 0, none⟩ (.int .i64 0)).setCell ⟨gR, 1, none⟩ (.int .i64 0)).setCell ⟨gR, 2, none⟩ (.int .i64 0)).setCell ⟨gR, 3, none⟩ (.int .i64 0)) :=
  bodyPost_ret (ref_results (A := AggP.zero) h4 h5 h6 (k.put4 _ _ _ _)) rfl (Or.inl ⟨hp, rfl, (Rest.put4 gR X _ _ _ _).below hB hR hB.size⟩)
/-- The end of a tape that may be. -/
theorem ref_done {P : Ending → World → Prop} {w X : World} {gR gA m : Nat} {v : Value} {q : List LoanP} {a : AggP} {S : List LoanP → AggP → Prop} (hB : Below w.heap.size w X) (hres : Blk X gR 49 AggP.zero.f) (hown : X.ownsRow w.heap.size 46 5 v m (q.flatMap LoanP.f)) (hl : q.length = m) (hR : w.heap.size ≤ gR) (_ : gR ≠ gA) (hv : v.ownBlock ≠ some gR) (tmps : Array Value) (h4 : tmps[4]?.getD undef = v) (h5 : tmps[5]?.getD undef = .pointer (some ⟨gR, 0, none⟩)) (h6 : tmps[6]?.getD undef = .int .i64 0) (hp : S q a) (Y : World)
    (hY : Y = ((((X.setCell ⟨gR, 0, none⟩ (.int .i64 a.pr)).setCell ⟨gR, 1, none⟩ (.int .i64 a.it)).setCell ⟨gR, 2, none⟩ (.int .i64 a.ls)).setCell ⟨gR, 3, none⟩ (.int .i64 a.rc)).drew) :
    bodyPost Try.prog Try.f16 (fun e w' => P e w' ∨ ∃ q a v', S q a ∧ e = .returned (.tuple #[v', a.v, .int .i64 0]) ∧ w'.ownsRow w.heap.size 46 5 v' q.length (q.flatMap LoanP.f) ∧ Below w.heap.size w w') Exit.ret { tmps := tmps, defers := [] } Y := by
  subst hY
  have r := Rest.put4 gR X (.int .i64 a.pr) (.int .i64 a.it) (.int .i64 a.ls) (.int .i64 a.rc)
  refine bodyPost_ret (ref_results (A := a) h4 h5 h6 (hres.put4 _ _ _ _).drew) rfl (Or.inr ⟨q, a, v, hp, rfl, ?_, (r.below hB hR hB.size).drew⟩)
  rw [hl]
  refine own_below ?_ (Below.refl _ _).drew
  exact own_same hown fun g hg => r.block g (hown.lt g hg).2 (fun e => hv (e ▸ hg))
end Go.Proofs.Ytoijgognbfifbaa
