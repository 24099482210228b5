/-
  Package late, plain: balances by how late they are; ratios.
-/
import Derived.Test.YtbppaomenhdjeaaLoanS
import Derived.Test.YtbppaomenhdjeaaSumBy
namespace Go.Proofs.Ytbppaomenhdjeaa
open Go.RowKit

/-- Balances, by how late. -/
structure BkT where
  a : Int
  b : Int
  c : Int
  d : Int
def BkT.f (t : BkT) : List Value := [.int .i64 t.a, .int .i64 t.b, .int .i64 t.c, .int .i64 t.d]
def BkT.v (t : BkT) : Value := .agg #[.int .i64 t.a, .int .i64 t.b, .int .i64 t.c, .int .i64 t.d]
def BkT.zero : BkT := ⟨0, 0, 0, 0⟩
def BkT.plus (t o : BkT) : BkT := ⟨t.a + o.a, t.b + o.b, t.c + o.c, t.d + o.d⟩
def BkT.all (t : BkT) : Int := t.a + t.b + t.c + t.d
/-- Those from k on. -/
def BkT.from (t : BkT) (k : Int) : Int := if k ≤ 0 then t.a + t.b + t.c + t.d else if k = 1 then t.b + t.c + t.d else if k = 2 then t.c + t.d else if k = 3 then t.d else 0
/-- The k-th. -/
def BkT.at (t : BkT) (k : Nat) : Int := if k = 0 then t.a else if k = 1 then t.b else if k = 2 then t.c else t.d
/-- Its numbers are 0 to B. -/
structure BkT.Bd (B : Int) (t : BkT) : Prop where
  a0 : 0 ≤ t.a
  a1 : t.a ≤ B
  b0 : 0 ≤ t.b
  b1 : t.b ≤ B
  c0 : 0 ≤ t.c
  c1 : t.c ≤ B
  d0 : 0 ≤ t.d
  d1 : t.d ≤ B
theorem BkT.ext {s t : BkT} (h1 : s.a = t.a) (h2 : s.b = t.b) (h3 : s.c = t.c) (h4 : s.d = t.d) : s = t := by
  obtain ⟨a, b, c, d⟩ := s
  obtain ⟨a', b', c', d'⟩ := t
  simp only at h1 h2 h3 h4
  subst h1 h2 h3 h4
  rfl
/-- A lateness' bucket. -/
def bkI (m : Int) : Int := if m ≤ 0 then 0 else if m ≤ 2 then 1 else if m ≤ 5 then 2 else 3
/-- What one loan is in. -/
def LoanP.bk (x : LoanP) : BkT := if x.late ≤ 0 then ⟨x.bal, 0, 0, 0⟩ else if x.late ≤ 2 then ⟨0, x.bal, 0, 0⟩ else if x.late ≤ 5 then ⟨0, 0, x.bal, 0⟩ else ⟨0, 0, 0, x.bal⟩
/-- What all are in. -/
def bkts (xs : List LoanP) : BkT := ⟨sumBy (fun x => x.bk.a) xs, sumBy (fun x => x.bk.b) xs, sumBy (fun x => x.bk.c) xs, sumBy (fun x => x.bk.d) xs⟩
theorem bkts_nil : bkts [] = BkT.zero := rfl
theorem bkts_append (xs ys : List LoanP) : bkts (xs ++ ys) = (bkts xs).plus (bkts ys) := by
  unfold bkts BkT.plus
  simp only [sumBy_append]
theorem bkts_one (x : LoanP) : bkts [x] = x.bk := by simp [bkts, sumBy]
theorem bkts_next (xs : List LoanP) (k : Nat) (x : LoanP) (h : xs[k]? = some x) : bkts (xs.take (k + 1)) = (bkts (xs.take k)).plus x.bk := by
  unfold bkts BkT.plus
  simp only [sumBy_next _ xs k x h]
theorem LoanP.bk_bd {x : LoanP} {B : Int} (h0 : 0 ≤ x.bal) (h1 : x.bal ≤ B) : x.bk.Bd B := by
  unfold LoanP.bk
  repeat' split
  all_goals constructor <;> simp only <;> omega
theorem bkts_bd {xs : List LoanP} {B : Int} (h : ∀ x ∈ xs, 0 ≤ x.bal ∧ x.bal ≤ B) (n : Nat) (hn : xs.length ≤ n) (hB : 0 ≤ B) : (bkts xs).Bd (n * B) := by
  have m : (xs.length : Int) * B ≤ n * B := Int.mul_le_mul_of_nonneg_right (by omega) hB
  have h1 := sumBy_le (fun x : LoanP => x.bk.a) B xs (fun x hx => ⟨(LoanP.bk_bd (h x hx).1 (h x hx).2).a0, (LoanP.bk_bd (h x hx).1 (h x hx).2).a1⟩)
  have h2 := sumBy_le (fun x : LoanP => x.bk.b) B xs (fun x hx => ⟨(LoanP.bk_bd (h x hx).1 (h x hx).2).b0, (LoanP.bk_bd (h x hx).1 (h x hx).2).b1⟩)
  have h3 := sumBy_le (fun x : LoanP => x.bk.c) B xs (fun x hx => ⟨(LoanP.bk_bd (h x hx).1 (h x hx).2).c0, (LoanP.bk_bd (h x hx).1 (h x hx).2).c1⟩)
  have h4 := sumBy_le (fun x : LoanP => x.bk.d) B xs (fun x hx => ⟨(LoanP.bk_bd (h x hx).1 (h x hx).2).d0, (LoanP.bk_bd (h x hx).1 (h x hx).2).d1⟩)
  unfold bkts
  exact ⟨h1.1, by simp only; omega, h2.1, by simp only; omega, h3.1, by simp only; omega, h4.1, by simp only; omega⟩
theorem LoanP.bk_all (x : LoanP) : x.bk.all = x.bal := by
  unfold LoanP.bk BkT.all
  repeat' split
  all_goals simp
theorem bkts_cons (x : LoanP) (r : List LoanP) : bkts (x :: r) = x.bk.plus (bkts r) := by
  rw [← bkts_one, ← bkts_append]; rfl
/-- All four are all balances. -/
theorem bkts_all : ∀ xs : List LoanP, (bkts xs).all = sumBy LoanP.bal xs
  | [] => rfl
  | x :: r => by
    have ih := bkts_all r
    have h1 := x.bk_all
    have e : sumBy LoanP.bal (x :: r) = x.bal + sumBy LoanP.bal r := by simp [sumBy]
    rw [bkts_cons, e, ← ih, ← h1]
    simp only [BkT.all, BkT.plus]
    omega
theorem BkT.from_succ (t : BkT) (j : Nat) (hj : j < 4) : t.from j = t.at j + t.from (j + 1 : Nat) := by
  rcases (show j = 0 ∨ j = 1 ∨ j = 2 ∨ j = 3 by omega) with rfl | rfl | rfl | rfl <;> simp [BkT.from, BkT.at] <;> omega
theorem BkT.from_end (t : BkT) (k : Int) (h : 4 ≤ k) : t.from k = 0 := by
  unfold BkT.from
  rw [if_neg (by omega), if_neg (by omega), if_neg (by omega), if_neg (by omega)]
theorem BkT.from_bd {t : BkT} {B : Int} (h : t.Bd B) (k : Int) : 0 ≤ t.from k ∧ t.from k ≤ 4 * B := by
  obtain ⟨a, b, c, d⟩ := t
  obtain ⟨h1, h2, h3, h4, h5, h6, h7, h8⟩ := h
  simp only at h1 h2 h3 h4 h5 h6 h7 h8
  simp only [BkT.from]
  repeat' split
  all_goals omega
theorem BkT.from_mono {t : BkT} {B : Int} (h : t.Bd B) {j k : Int} (hk : j ≤ k) : t.from k ≤ t.from j := by
  obtain ⟨a, b, c, d⟩ := t
  obtain ⟨h1, h2, h3, h4, h5, h6, h7, h8⟩ := h
  simp only at h1 h2 h3 h4 h5 h6 h7 h8
  simp only [BkT.from]
  repeat' split
  all_goals omega
theorem BkT.from_zero (t : BkT) (k : Int) (h : k ≤ 0) : t.from k = t.all := by
  unfold BkT.from BkT.all
  rw [if_pos h]

/-- Where a loan's balance goes. -/
theorem bk_cases (id bal lost late : Int) (over : Bool) (a b c d : Int) :
    (bkI late = 0 ∧ (BkT.mk a b c d).plus (LoanP.mk id bal lost late over).bk = ⟨a + bal, b, c, d⟩) ∨ (bkI late = 1 ∧ (BkT.mk a b c d).plus (LoanP.mk id bal lost late over).bk = ⟨a, b + bal, c, d⟩) ∨
    (bkI late = 2 ∧ (BkT.mk a b c d).plus (LoanP.mk id bal lost late over).bk = ⟨a, b, c + bal, d⟩) ∨ (bkI late = 3 ∧ (BkT.mk a b c d).plus (LoanP.mk id bal lost late over).bk = ⟨a, b, c, d + bal⟩) := by
  unfold bkI LoanP.bk BkT.plus
  by_cases h0 : late ≤ 0
  · left; simp [h0]
  · by_cases h1 : late ≤ 2
    · right; left; simp [h0, h1]
    · by_cases h2 : late ≤ 5
      · right; right; left; simp [h0, h1, h2]
      · right; right; right; simp [h0, h1, h2]
theorem bk_cases2 (id bal lost late : Int) (over : Bool) (a b c d : Int) (h : 0 ≤ late) :
    (late = 0 ∧ (BkT.mk a b c d).plus (LoanP.mk id bal lost late over).bk = ⟨a + bal, b, c, d⟩) ∨ (0 < late ∧ late < 3 ∧ (BkT.mk a b c d).plus (LoanP.mk id bal lost late over).bk = ⟨a, b + bal, c, d⟩) ∨
    (0 < late ∧ 3 ≤ late ∧ late < 6 ∧ (BkT.mk a b c d).plus (LoanP.mk id bal lost late over).bk = ⟨a, b, c + bal, d⟩) ∨ (0 < late ∧ 3 ≤ late ∧ 6 ≤ late ∧ (BkT.mk a b c d).plus (LoanP.mk id bal lost late over).bk = ⟨a, b, c, d + bal⟩) := by
  rcases bk_cases id bal lost late over a b c d with ⟨h1, h2⟩ | ⟨h1, h2⟩ | ⟨h1, h2⟩ | ⟨h1, h2⟩
  · exact Or.inl ⟨by unfold bkI at h1; split at h1; omega; split at h1; omega; split at h1 <;> omega, h2⟩
  · have : 0 < late ∧ late < 3 := by unfold bkI at h1; split at h1; omega; split at h1; omega; split at h1 <;> omega
    exact Or.inr (Or.inl ⟨this.1, this.2, h2⟩)
  · have : 0 < late ∧ 3 ≤ late ∧ late < 6 := by unfold bkI at h1; split at h1; omega; split at h1; omega; split at h1 <;> omega
    exact Or.inr (Or.inr (Or.inl ⟨this.1, this.2.1, this.2.2, h2⟩))
  · have : 0 < late ∧ 3 ≤ late ∧ 6 ≤ late := by unfold bkI at h1; split at h1; omega; split at h1; omega; split at h1 <;> omega
    exact Or.inr (Or.inr (Or.inr ⟨this.1, this.2.1, this.2.2, h2⟩))
/-- May a ratio of these be compared? -/
def mayR (a b p : Int) : Bool := decide (0 ≤ a ∧ a ≤ 1099511627776) && decide (0 ≤ b ∧ b ≤ 1099511627776) && decide (0 ≤ p ∧ p ≤ 100000)
def atLeastP (a b p : Int) : Bool := mayR a b p && decide (b * p ≤ a * 10000)
def atMostP (a b p : Int) : Bool := mayR a b p && decide (a * 10000 ≤ b * p)
end Go.Proofs.Ytbppaomenhdjeaa
