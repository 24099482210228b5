/-
  Package cents: what its functions tell, as functions of numbers, and the walks of Right, Sum, Least, goesUp.
-/
import Derived.Test.YtbppaomenhdjeaaBase
namespace Go.Proofs.Ytbppaomenhdjeaa
open Go.RowKit

/-- The slice value v reads as the numbers zs. -/
def Reads (w : World) (v : Value) (zs : List Int) : Prop :=
  ∃ a cap, v = .slice a zs.length cap ∧ zs.length ≤ cap ∧ zs.length ≤ maxLen ∧ (zs = [] ∨ ∃ b off, a = some ⟨b, off, none⟩ ∧ ∀ i, i < zs.length → w.cell? ⟨b, off + i, none⟩ = some (.int .i64 (zs.getD i 0)))

/-- Is each an amount? -/
def rightL (zs : List Int) : Bool := zs.all fun n => decide (0 ≤ n) && decide (n ≤ 1152921504606846976)

/-- The sum from s on, as long as it may be. -/
def sumFrom : List Int → Int → Option Int
  | [], s => some s
  | n :: r, s => if n < 0 ∨ 1152921504606846976 - s < n then none else sumFrom r (s + n)

def leastFrom : List Int → Int → Int
  | [], m => m
  | n :: r, m => leastFrom r (min m n)

def leastL : List Int → Int
  | [] => 1152921504606846976
  | n :: r => leastFrom r n

theorem drop_at (zs : List Int) (k : Nat) (h : k < zs.length) : zs.drop k = zs.getD k 0 :: zs.drop (k + 1) := by
  rw [List.drop_eq_getElem_cons h]
  simp [h]

theorem rightL_at (zs : List Int) (k : Nat) (h : k < zs.length) : rightL (zs.drop k) = (decide (0 ≤ zs.getD k 0) && decide (zs.getD k 0 ≤ 1152921504606846976) && rightL (zs.drop (k + 1))) := by
  rw [drop_at zs k h]
  simp [rightL]

theorem sumFrom_at (zs : List Int) (k : Nat) (h : k < zs.length) (s : Int) : sumFrom (zs.drop k) s = if zs.getD k 0 < 0 ∨ 1152921504606846976 - s < zs.getD k 0 then none else sumFrom (zs.drop (k + 1)) (s + zs.getD k 0) := by
  rw [drop_at zs k h]
  rfl

theorem leastFrom_at (zs : List Int) (k : Nat) (h : k < zs.length) (m : Int) : leastFrom (zs.drop k) m = leastFrom (zs.drop (k + 1)) (min m (zs.getD k 0)) := by
  rw [drop_at zs k h]
  rfl




/-- Is a quotient with this rest rounded up? -/
def upB (q r per how : Int) : Bool := (how == 1 && decide (0 < r)) || (how == 2 && (decide (per < 2 * r) || (2 * r == per && q % 2 == 1)))


end Go.Proofs.Ytbppaomenhdjeaa
