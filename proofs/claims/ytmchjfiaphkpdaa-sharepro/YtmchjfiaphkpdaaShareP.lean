/-
  Package share, plain: what InOrder, Left and Pro tell, as functions of numbers.
-/
import Derived.Test.YtmchjfiaphkpdaaMem
namespace Go.Proofs.Ytmchjfiaphkpdaa

/-- In order: of each claim as much as is left, no more than it. -/
def inOrd : Int → List Int → List Int
  | _, [] => []
  | n, c :: r => min n (max c 0) :: inOrd (n - min n (max c 0)) r

theorem inOrd_length : ∀ (l : List Int) (n : Int), (inOrd n l).length = l.length
  | [], _ => rfl
  | c :: r, n => by simp [inOrd, inOrd_length r]

theorem inOrd_snoc : ∀ (l : List Int) (n c : Int), inOrd n (l ++ [c]) = inOrd n l ++ [min (n - (inOrd n l).sum) (max c 0)]
  | [], n, c => by simp [inOrd]
  | a :: r, n, c => by
    simp only [List.cons_append, inOrd, inOrd_snoc r, List.sum_cons]
    rw [Int.sub_sub]

/-- What is left of n behind the first k. -/
def ordLeft (n : Int) (zs : List Int) (k : Nat) : Int := n - (inOrd n (zs.take k)).sum

theorem take_next (zs : List Int) (k : Nat) (h : k < zs.length) : zs.take (k + 1) = zs.take k ++ [zs.getD k 0] := by
  rw [List.take_succ_eq_append_getElem h]
  simp [List.getD_eq_getElem?_getD, h]

theorem inOrd_next (n : Int) (zs : List Int) (k : Nat) (h : k < zs.length) : inOrd n (zs.take (k + 1)) = inOrd n (zs.take k) ++ [min (ordLeft n zs k) (max (zs.getD k 0) 0)] := by
  rw [take_next zs k h, inOrd_snoc]
  rfl

theorem ordLeft_next (n : Int) (zs : List Int) (k : Nat) (h : k < zs.length) : ordLeft n zs (k + 1) = ordLeft n zs k - min (ordLeft n zs k) (max (zs.getD k 0) 0) := by
  unfold ordLeft
  rw [inOrd_next n zs k h, List.sum_append]
  simp only [ordLeft, List.sum_cons, List.sum_nil]
  omega

theorem ordLeft_range (n : Int) (zs : List Int) (hn : 0 ≤ n) : ∀ k, k ≤ zs.length → 0 ≤ ordLeft n zs k ∧ ordLeft n zs k ≤ n
  | 0, _ => by simp [ordLeft, inOrd]; exact hn
  | k + 1, h => by
    have ih := ordLeft_range n zs hn k (by omega)
    rw [ordLeft_next n zs k (by omega)]
    omega

/-- A list that is laid from its beginning on into a row of noughts. -/
def fillAt (A : List Int) (n : Nat) : List Int := A ++ List.replicate (n - A.length) 0

theorem fillAt_length (A : List Int) (n : Nat) (h : A.length ≤ n) : (fillAt A n).length = n := by simp [fillAt]; omega
theorem fillAt_full (A : List Int) (n : Nat) (h : A.length = n) : fillAt A n = A := by simp [fillAt, h]
theorem fillAt_nil (n : Nat) : fillAt [] n = List.replicate n 0 := by simp [fillAt]

theorem fill_next (A : List Int) (n : Nat) (x : Int) (k : Nat) (hk : A.length = k) (h : k < n) : ((fillAt A n).map (Value.int .i64)).set k (.int .i64 x) = (fillAt (A ++ [x]) n).map (Value.int .i64) := by
  unfold fillAt
  rw [← List.map_set]
  congr 1
  obtain ⟨m, hm⟩ : ∃ m, n - A.length = m + 1 := ⟨n - A.length - 1, by omega⟩
  rw [hm, List.set_append_right _ _ (by omega), List.replicate_succ, ← hk, Nat.sub_self, List.set_cons_zero]
  simp only [List.append_assoc, List.singleton_append, List.length_append, List.length_cons, List.length_nil]
  rw [show n - (A.length + (0 + 1)) = m by omega]

/-- Left: n less all of them; 0 if that is below 0, or no int. -/
def leftL (n : Int) (zs : List Int) : Int := if 0 ≤ max n 0 - zs.sum ∧ max n 0 - zs.sum ≤ 9223372036854775807 then max n 0 - zs.sum else 0

end Go.Proofs.Ytmchjfiaphkpdaa
