/-
  Package cents: what its functions tell, as functions of numbers, and the walks of Right, Sum, Least, goesUp.
-/
import Derived.Test.YtamdmicdieeolaaBase
namespace Go.Proofs.Ytamdmicdieeolaa
open Go.RowKit

/-- The slice value v reads as the numbers zs. -/
def Reads (w : World) (v : Value) (zs : List Int) : Prop :=
  ∃ a cap, v = .slice a zs.length cap ∧ zs.length ≤ cap ∧ zs.length ≤ maxLen ∧ (zs = [] ∨ ∃ b off, a = some ⟨b, off, none⟩ ∧ ∀ i, i < zs.length → w.cell? ⟨b, off + i, none⟩ = some (.int .i64 (zs.getD i 0)))

/-- Is each an amount? -/
def rightL (zs : List Int) : Bool := zs.all fun n => decide (0 ≤ n) && decide (n ≤ 1152921504606846976)

/-- The sum from s on, as long as it may be. -/
def sumFrom : List Int → Int → Option Int
  | [], s => some s
  | n :: r, s => if n < 0 ∨ 1152921504606846976 - s < n then none else sumFrom r (s + n)

def leastFrom : List Int → Int → Int
  | [], m => m
  | n :: r, m => leastFrom r (min m n)

def leastL : List Int → Int
  | [] => 1152921504606846976
  | n :: r => leastFrom r n

theorem drop_at (zs : List Int) (k : Nat) (h : k < zs.length) : zs.drop k = zs.getD k 0 :: zs.drop (k + 1) := by
  rw [List.drop_eq_getElem_cons h]
  simp [h]

theorem rightL_at (zs : List Int) (k : Nat) (h : k < zs.length) : rightL (zs.drop k) = (decide (0 ≤ zs.getD k 0) && decide (zs.getD k 0 ≤ 1152921504606846976) && rightL (zs.drop (k + 1))) := by
  rw [drop_at zs k h]
  simp [rightL]

theorem sumFrom_at (zs : List Int) (k : Nat) (h : k < zs.length) (s : Int) : sumFrom (zs.drop k) s = if zs.getD k 0 < 0 ∨ 1152921504606846976 - s < zs.getD k 0 then none else sumFrom (zs.drop (k + 1)) (s + zs.getD k 0) := by
  rw [drop_at zs k h]
  rfl

theorem leastFrom_at (zs : List Int) (k : Nat) (h : k < zs.length) (m : Int) : leastFrom (zs.drop k) m = leastFrom (zs.drop (k + 1)) (min m (zs.getD k 0)) := by
  rw [drop_at zs k h]
  rfl


set_option maxHeartbeats 1000000 in
theorem sum_at (b off len cap : Nat) (zs : List Int) (w : World) (hl : zs.length = len) (hm : len ≤ maxLen)
    (hc : ∀ i, i < len → w.cell? ⟨b, off + i, none⟩ = some (.int .i64 (zs.getD i 0))) :
    Calls Try.prog 20 #[.slice (some ⟨b, off, none⟩) len cap] w fun e w' => e = .returned (.tuple #[.int .i64 ((sumFrom zs 0).getD 0), .bool (sumFrom zs 0).isSome]) ∧ w' = w := by
  unfold maxLen at hm
  generalize hS : sumFrom zs 0 = S
  have HS : Hid (sumFrom zs 0 = S) := hS
  clear hS
  go_enter Try.func20, Try.ntmps20
  go_wp2
  go_loop [4, 9] (fun t i => ∃ (k : Nat) (s : Int), k ≤ len ∧ i = .int .i64 k ∧ t = .int .i64 s ∧ 0 ≤ s ∧ s ≤ 1152921504606846976 ∧ sumFrom (zs.drop k) s = S) (fun _ i => len - (intOf i).toNat)
  case atStart => exact ⟨0, 0, Nat.zero_le _, rfl, rfl, by omega, by omega, HS.out⟩
  case round =>
    obtain ⟨k, s, hk, rfl, rfl, s0, s1, hr⟩ := hrel
    by_cases hlt : k < len
    · have hcell := hc k hlt
      rw [sumFrom_at zs k (by omega)] at hr
      generalize zs.getD k 0 = x at hcell hr
      have HA : Hid ((if x < 0 ∨ 1152921504606846976 - s < x then none else sumFrom (zs.drop (k + 1)) (s + x)) = S) := hr
      clear hr hc HS
      by_cases h0 : 0 ≤ x
      · by_cases h1 : x ≤ 1152921504606846976 - s
        · go_wp2
          go_round
          case rel => exact ⟨k + 1, s + x, by omega, by go_num, rfl, by omega, by omega, by rw [← HA.out, if_neg (by omega)]⟩
          case measure => simp [intOf]; omega
        · go_wp2
          go_ret2
          have e : S = none := by rw [← HA.out, if_pos (by omega)]
          exact ⟨by rw [e]; rfl, rfl⟩
      · go_wp2
        go_ret2
        have e : S = none := by rw [← HA.out, if_pos (by omega)]
        exact ⟨by rw [e]; rfl, rfl⟩
    · have e : S = some s := by
        rw [← hr, List.drop_eq_nil_of_le (by omega)]; rfl
      have HE : Hid (S = some s) := e
      clear hr hc HS e
      go_wp2
      go_ret2
      exact ⟨by rw [HE.out]; rfl, rfl⟩

set_option maxHeartbeats 1000000 in
theorem sum_none (a : Option Addr) (cap : Nat) (w : World) :
    Calls Try.prog 20 #[.slice a 0 cap] w fun e w' => e = .returned (.tuple #[.int .i64 0, .bool true]) ∧ w' = w := by
  go_enter Try.func20, Try.ntmps20
  go_wp2
  go_loop [4, 9] (fun t i => t = .int .i64 0 ∧ i = .int .i64 0) (fun _ _ => 0)
  case atStart => exact ⟨rfl, rfl⟩
  case round =>
    obtain ⟨rfl, rfl⟩ := hrel
    go_wp2
    go_ret2
    exact ⟨rfl, rfl⟩

theorem sum_any (v : Value) (zs : List Int) (w : World) (h : Reads w v zs) :
    Calls Try.prog 20 #[v] w fun e w' => e = .returned (.tuple #[.int .i64 ((sumFrom zs 0).getD 0), .bool (sumFrom zs 0).isSome]) ∧ w' = w := by
  obtain ⟨a, cap, rfl, _, hm, rfl | ⟨b, off, rfl, hc⟩⟩ := h
  · exact sum_none a cap w
  · exact sum_at b off _ cap zs w rfl hm hc


/-- Is a quotient with this rest rounded up? -/
def upB (q r per how : Int) : Bool := (how == 1 && decide (0 < r)) || (how == 2 && (decide (per < 2 * r) || (2 * r == per && q % 2 == 1)))


end Go.Proofs.Ytamdmicdieeolaa
