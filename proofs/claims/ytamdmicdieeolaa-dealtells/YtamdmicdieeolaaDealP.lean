/-
  A deal, its cells; what the document says of deals, as functions of lists.
-/
import Derived.Test.YtamdmicdieeolaaLnS
namespace Go.Proofs.Ytamdmicdieeolaa
open Go.RowKit

/-- A note's terms. -/
structure TrT where
  rk : Int
  og : Int
  rt : Int
def TrT.f (x : TrT) : List Value := [.int .i64 x.rk, .int .i64 x.og, .int .i64 x.rt]
theorem TrT.len (x : TrT) : x.f.length = 3 := rfl
theorem TrT.one (x : TrT) : ∀ u ∈ x.f, u.oneCell' = true := by
  intro u hu
  simp only [TrT.f, List.mem_cons, List.not_mem_nil, or_false] at hu
  rcases hu with rfl | rfl | rfl <;> rfl
/-- One of a slice of them, as it lies there. -/
theorem Lies.tr {w : World} {a : Option Addr} {n cap : Nat} {xs : List TrT} (h : Lies 3 TrT.f w (.slice a n cap) xs) (k : Nat) (hk : k < n) :
    ∃ b off x, a = some ⟨b, off, none⟩ ∧ xs[k]? = some x ∧ x ∈ xs ∧ w.cell? ⟨b, off + k * 3, none⟩ = some (.int .i64 x.rk) ∧ w.cell? ⟨b, off + k * 3 + 1, none⟩ = some (.int .i64 x.og) ∧ w.cell? ⟨b, off + k * 3 + 2, none⟩ = some (.int .i64 x.rt) := by
  obtain ⟨b, off, rfl, hc⟩ := h.place (by omega)
  have hl := h.len
  have hx : xs[k]? = some (xs[k]'(by omega)) := List.getElem?_eq_getElem (by omega)
  have c := hc k _ hx
  have c0 := c 0 _ rfl
  rw [Nat.add_zero] at c0
  exact ⟨b, off, _, rfl, hx, List.getElem_mem _, c0, c 1 _ rfl, c 2 _ rfl⟩
/-- A step. -/
structure StT where
  kd : Int
  rk : Int
def StT.f (x : StT) : List Value := [.int .i64 x.kd, .int .i64 x.rk]
def StT.v (x : StT) : Value := .agg #[.int .i64 x.kd, .int .i64 x.rk]
theorem StT.len (x : StT) : x.f.length = 2 := rfl
theorem StT.one (x : StT) : ∀ u ∈ x.f, u.oneCell' = true := by
  intro u hu
  simp only [StT.f, List.mem_cons, List.not_mem_nil, or_false] at hu
  rcases hu with rfl | rfl <;> rfl
/-- One of a slice of them, as it lies there. -/
theorem Lies.st {w : World} {a : Option Addr} {n cap : Nat} {xs : List StT} (h : Lies 2 StT.f w (.slice a n cap) xs) (k : Nat) (hk : k < n) :
    ∃ b off x, a = some ⟨b, off, none⟩ ∧ xs[k]? = some x ∧ x ∈ xs ∧ w.cell? ⟨b, off + k * 2, none⟩ = some (.int .i64 x.kd) ∧ w.cell? ⟨b, off + k * 2 + 1, none⟩ = some (.int .i64 x.rk) := by
  obtain ⟨b, off, rfl, hc⟩ := h.place (by omega)
  have hl := h.len
  have hx : xs[k]? = some (xs[k]'(by omega)) := List.getElem?_eq_getElem (by omega)
  have c := hc k _ hx
  have c0 := c 0 _ rfl
  rw [Nat.add_zero] at c0
  exact ⟨b, off, _, rfl, hx, List.getElem_mem _, c0, c 1 _ rfl⟩
/-- A deal's numbers. -/
structure NumT where
  yr : Int
  mo : Int
  ba : Int
  fe : Int
  re : Int
  ta : Int
  ad : Int
  cu : Int
  t0 : Int
  t1 : Int
  t2 : Int
  t3 : Int
  t4 : Int
/-- A deal. -/
structure DealT where
  t : NumT
  ls : List LnT
  ns : List TrT
  s0 : List StT
  s1 : List StT
  s2 : List StT
/-- A deal's cells. -/
def NumT.f (t : NumT) (l n a b c : Value) : List Value := [.int .i64 t.yr, .int .i64 t.mo, .int .i64 t.ba, l, n, .int .i64 t.fe, .int .i64 t.re, .int .i64 t.ta, .int .i64 t.ad, .int .i64 t.cu, .int .i64 t.t0, .int .i64 t.t1, .int .i64 t.t2, .int .i64 t.t3, .int .i64 t.t4, a, b, c]
def NumT.v (t : NumT) (l n a b c : Value) : Value := .agg #[.int .i64 t.yr, .int .i64 t.mo, .int .i64 t.ba, l, n, .int .i64 t.fe, .int .i64 t.re, .int .i64 t.ta, .int .i64 t.ad, .int .i64 t.cu, .int .i64 t.t0, .int .i64 t.t1, .int .i64 t.t2, .int .i64 t.t3, .int .i64 t.t4, a, b, c]
/-- A deal handed about: its lists lie as they should. -/
structure DealIn (w : World) (l n a b c : Value) (d : DealT) : Prop where
  ls : Lies 2 LnT.f w l d.ls
  ns : Lies 3 TrT.f w n d.ns
  s0 : Lies 2 StT.f w a d.s0
  s1 : Lies 2 StT.f w b d.s1
  s2 : Lies 2 StT.f w c d.s2
theorem DealIn.below {w w' : World} {l n a b c : Value} {d : DealT} (h : DealIn w l n a b c d) (k : Below w.heap.size w w') : DealIn w' l n a b c d :=
  ⟨h.ls.below k, h.ns.below k, h.s0.below k, h.s1.below k, h.s2.below k⟩

/-- Is each lo to hi? -/
def inL (lo hi : Int) (zs : List Int) : Bool := zs.all fun n => decide (lo ≤ n) && decide (n ≤ hi)
theorem inL_at (lo hi : Int) (zs : List Int) (k : Nat) (h : k < zs.length) : inL lo hi (zs.drop k) = (decide (lo ≤ zs.getD k 0) && decide (zs.getD k 0 ≤ hi) && inL lo hi (zs.drop (k + 1))) := by
  rw [drop_at zs k h]
  simp [inL]
theorem inL_one (lo hi z : Int) : inL lo hi [z] = (decide (lo ≤ z) && decide (z ≤ hi)) := by simp [inL]
def rankP (r : Int) : Bool := inL 0 7 [r]
def StT.ok (x : StT) : Bool := if x.kd = 3 then rankP x.rk else inL 1 7 [x.kd] && decide (x.rk = 0)
def StT.eq (x y : StT) : Bool := decide (x.kd = y.kd ∧ x.rk = y.rk)
def TrT.ok (x : TrT) : Bool := !(decide (x.og < 1)) && rankP x.rk && inL 0 5000 [x.rt]
/-- Ids that rise. -/
def idsFrom : Int → List LnT → Bool
  | _, [] => true
  | a, x :: r => decide (a < x.id) && idsFrom x.id r
def stepsFrom : List StT → List StT → Bool
  | _, [] => true
  | p, x :: r => x.ok && !(p.any fun y => x.eq y) && stepsFrom (p ++ [x]) r
def stepsP (xs : List StT) : Bool := inL 1 16 [xs.length] && stepsFrom [] xs
def loansP (xs : List LnT) : Bool := inL 1 64 [xs.length] && idsFrom 0 xs
def notesP (xs : List TrT) : Bool := inL 1 8 [xs.length] && xs.all TrT.ok
def NumT.ok (t : NumT) : Bool :=
  inL 1 9000 [t.yr] && inL 1 12 [t.mo] && inL 0 2 [t.ba] && inL 0 5000 [t.fe] && inL 0 10000 [t.ta] && inL 0 1099511627776 [t.re, t.ad] && inL 0 600 [t.cu] && inL 0 100000 [t.t0, t.t1, t.t2, t.t3, t.t4]
def DealT.lent (d : DealT) : Option Int := sumFrom (d.ls.map LnT.bal) 0
def DealT.issued (d : DealT) : Option Int := sumFrom (d.ns.map TrT.og) 0
def DealT.modes (d : DealT) : Bool := stepsP d.s0 && stepsP d.s1 && stepsP d.s2
def DealT.ok (d : DealT) : Bool :=
  d.t.ok && loansP d.ls && notesP d.ns && d.lent.isSome && d.issued.isSome && decide (d.lent.getD 0 ≤ 1099511627776) && decide (d.issued.getD 0 ≤ d.lent.getD 0) && d.modes
def DealT.pool (d : DealT) : Int := if d.ok then d.lent.getD 0 else 0
def DealT.notes (d : DealT) : Int := if d.ok then d.issued.getD 0 else 0
theorem idsFrom_at (xs : List LnT) (k : Nat) (x : LnT) (h : xs[k]? = some x) (a : Int) : idsFrom a (xs.drop k) = (decide (a < x.id) && idsFrom x.id (xs.drop (k + 1))) := by
  obtain ⟨hk, rfl⟩ := List.getElem?_eq_some_iff.1 h
  rw [List.drop_eq_getElem_cons hk]
  rfl
theorem stepsFrom_at (xs : List StT) (k : Nat) (x : StT) (h : xs[k]? = some x) : stepsFrom (xs.take k) (xs.drop k) = (x.ok && !((xs.take k).any fun y => x.eq y) && stepsFrom (xs.take (k + 1)) (xs.drop (k + 1))) := by
  obtain ⟨hk, rfl⟩ := List.getElem?_eq_some_iff.1 h
  rw [List.drop_eq_getElem_cons hk, List.take_succ_eq_append_getElem hk]
  rfl
theorem allTr_at (xs : List TrT) (k : Nat) (x : TrT) (h : xs[k]? = some x) : (xs.drop k).all TrT.ok = (x.ok && (xs.drop (k + 1)).all TrT.ok) := by
  obtain ⟨hk, rfl⟩ := List.getElem?_eq_some_iff.1 h
  rw [List.drop_eq_getElem_cons hk]
  rfl
end Go.Proofs.Ytamdmicdieeolaa
