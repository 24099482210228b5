/-
  Package tape: lines and totals; the walks of Plus, Cash and totalOf.
-/
import Derived.Test.YtoijgognbfifbaaLiesNew
import Derived.Test.YtoijgognbfifbaaShapeLies
import Derived.Test.YtoijgognbfifbaaSumBy
namespace Go.Proofs.Ytoijgognbfifbaa
open Go.RowKit

/-- A line. -/
structure LineT where
  id : Int
  pr : Int
  pp : Int
  it : Int
  rc : Int
  lt : Int
  df : Bool
def LineT.f (x : LineT) : List Value := [.int .i64 x.id, .int .i64 x.pr, .int .i64 x.pp, .int .i64 x.it, .int .i64 x.rc, .int .i64 x.lt, .bool x.df]
def LineT.v (x : LineT) : Value := .agg #[.int .i64 x.id, .int .i64 x.pr, .int .i64 x.pp, .int .i64 x.it, .int .i64 x.rc, .int .i64 x.lt, .bool x.df]
theorem LineT.len (x : LineT) : x.f.length = 7 := rfl
theorem LineT.one (x : LineT) : ∀ u ∈ x.f, u.oneCell' = true := by
  intro u hu
  simp only [LineT.f, List.mem_cons, List.not_mem_nil, or_false] at hu
  rcases hu with rfl | rfl | rfl | rfl | rfl | rfl | rfl <;> rfl
/-- One that defaults counts. -/
def LineT.n (x : LineT) : Int := if x.df then 1 else 0
theorem LineT.n_bd (x : LineT) : 0 ≤ x.n ∧ x.n ≤ 1 := by unfold LineT.n; split <;> omega

/-- What lines came to. -/
structure TotT where
  p : Int
  q : Int
  i : Int
  r : Int
  d : Int
def TotT.f (t : TotT) : List Value := [.int .i64 t.p, .int .i64 t.q, .int .i64 t.i, .int .i64 t.r, .int .i64 t.d]
def TotT.v (t : TotT) : Value := .agg #[.int .i64 t.p, .int .i64 t.q, .int .i64 t.i, .int .i64 t.r, .int .i64 t.d]
def TotT.plus (t o : TotT) : TotT := ⟨t.p + o.p, t.q + o.q, t.i + o.i, t.r + o.r, t.d + o.d⟩
def TotT.cash (t : TotT) : Int := t.p + t.q + t.i + t.r
def TotT.zero : TotT := ⟨0, 0, 0, 0, 0⟩
/-- Its numbers are 0 to B. -/
structure TotT.Bd (B : Int) (t : TotT) : Prop where
  p0 : 0 ≤ t.p
  p1 : t.p ≤ B
  q0 : 0 ≤ t.q
  q1 : t.q ≤ B
  i0 : 0 ≤ t.i
  i1 : t.i ≤ B
  r0 : 0 ≤ t.r
  r1 : t.r ≤ B
  d0 : 0 ≤ t.d
  d1 : t.d ≤ B
theorem TotT.ext {s t : TotT} (h1 : s.p = t.p) (h2 : s.q = t.q) (h3 : s.i = t.i) (h4 : s.r = t.r) (h5 : s.d = t.d) : s = t := by
  obtain ⟨a, b, c, d, e⟩ := s
  obtain ⟨a', b', c', d', e'⟩ := t
  simp only at h1 h2 h3 h4 h5
  subst h1 h2 h3 h4 h5
  rfl
/-- What one line comes to. -/
def LineT.tot (x : LineT) : TotT := ⟨x.pr, x.pp, x.it, x.rc, x.n⟩
/-- A line's amounts are 0 to 2^40. -/
structure LineT.Am (x : LineT) : Prop where
  pr0 : 0 ≤ x.pr
  pr1 : x.pr ≤ 1099511627776
  pp0 : 0 ≤ x.pp
  pp1 : x.pp ≤ 1099511627776
  it0 : 0 ≤ x.it
  it1 : x.it ≤ 1099511627776
  rc0 : 0 ≤ x.rc
  rc1 : x.rc ≤ 1099511627776
/-- What all come to. -/
def sumT (xs : List LineT) : TotT := ⟨sumBy LineT.pr xs, sumBy LineT.pp xs, sumBy LineT.it xs, sumBy LineT.rc xs, sumBy LineT.n xs⟩
theorem sumT_nil : sumT [] = TotT.zero := rfl
theorem sumT_append (xs ys : List LineT) : sumT (xs ++ ys) = (sumT xs).plus (sumT ys) := by
  unfold sumT TotT.plus
  simp only [sumBy_append]
theorem sumT_one (x : LineT) : sumT [x] = x.tot := by simp [sumT, sumBy, LineT.tot]
theorem sumT_next (xs : List LineT) (k : Nat) (x : LineT) (h : xs[k]? = some x) : sumT (xs.take (k + 1)) = (sumT (xs.take k)).plus x.tot := by
  unfold sumT TotT.plus LineT.tot
  simp only [sumBy_next _ xs k x h]
theorem sumT_bd {xs : List LineT} (h : ∀ x ∈ xs, x.Am) (n : Nat) (hn : xs.length ≤ n) : (sumT xs).Bd (n * 1099511627776) := by
  have m : (xs.length : Int) * 1099511627776 ≤ n * 1099511627776 := Int.mul_le_mul_of_nonneg_right (by omega) (by omega)
  have h1 := sumBy_le LineT.pr 1099511627776 xs (fun x hx => ⟨(h x hx).pr0, (h x hx).pr1⟩)
  have h2 := sumBy_le LineT.pp 1099511627776 xs (fun x hx => ⟨(h x hx).pp0, (h x hx).pp1⟩)
  have h3 := sumBy_le LineT.it 1099511627776 xs (fun x hx => ⟨(h x hx).it0, (h x hx).it1⟩)
  have h4 := sumBy_le LineT.rc 1099511627776 xs (fun x hx => ⟨(h x hx).rc0, (h x hx).rc1⟩)
  have h5 := sumBy_le LineT.n 1099511627776 xs (fun x hx => ⟨x.n_bd.1, by have := x.n_bd; omega⟩)
  unfold sumT
  exact ⟨h1.1, by simp only; omega, h2.1, by simp only; omega, h3.1, by simp only; omega, h4.1, by simp only; omega, h5.1, by simp only; omega⟩

end Go.Proofs.Ytoijgognbfifbaa
