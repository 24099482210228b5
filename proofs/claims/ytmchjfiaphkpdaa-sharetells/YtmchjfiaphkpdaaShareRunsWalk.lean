/-
  The walk of ShareRuns.
-/
import Derived.Test.YtmchjfiaphkpdaaShare
import Derived.Test.YtmchjfiaphkpdaaShare2
import Derived.Test.YtmchjfiaphkpdaaPro3
namespace Go.Proofs.Ytmchjfiaphkpdaa
open Go.RowKit

theorem same_b (v v' : Value) (zs : List Int) (w : World) (h : Reads w v zs) (h' : Reads w v' zs) :
    Calls Try.prog 9 #[v, v'] w fun e w' => e = .returned (.bool true) ∧ Below w.heap.size w w' :=
  (same_any v v' zs w h h').mono fun _ _ ⟨he, m, hw⟩ => ⟨he, by rw [hw]; exact below_draws (Below.refl _ _) m⟩

theorem inOrder_b (n : Int) (v : Value) (zs : List Int) (w : World) (h : Reads w v zs) (hb : zs.length ≤ 1000000) (hn : n ≤ 9223372036854775807) :
    Calls Try.prog 10 #[.int .i64 n, v] w fun e w' => ∃ g, w.heap.size ≤ g ∧ e = .returned (.slice (some ⟨g, 0, none⟩) zs.length zs.length) ∧ Reads w' (.slice (some ⟨g, 0, none⟩) zs.length zs.length) (inOrd (max n 0) zs) ∧ Below w.heap.size w w' :=
  (inOrder_any n v zs w h hb hn).mono fun _ _ ⟨he, ho, hw⟩ => ⟨_, Nat.le_refl _, he, own_reads ho, hw⟩
theorem pro_b (n : Int) (v : Value) (zs : List Int) (w : World) (h : Reads w v zs) (hb : zs.length ≤ 1000000) :
    Calls Try.prog 11 #[.int .i64 n, v] w fun e w' => ∃ g, w.heap.size ≤ g ∧ e = .returned (.slice (some ⟨g, 0, none⟩) zs.length zs.length) ∧ Reads w' (.slice (some ⟨g, 0, none⟩) zs.length zs.length) (proL n zs) ∧ Below w.heap.size w w' :=
  (pro_any n v zs w h hb).mono fun _ _ ⟨he, ho, hw⟩ => ⟨_, Nat.le_refl _, he, own_reads ho, hw⟩

theorem left_b (n : Int) (v : Value) (zs : List Int) (w : World) (h : Reads w v zs) (hb : zs.length ≤ 1000000) (hn : n ≤ 9223372036854775807) (hr : ∀ x ∈ zs, -9223372036854775808 ≤ x ∧ x ≤ 9223372036854775807) :
    Calls Try.prog 12 #[.int .i64 n, v] w fun e w' => e = .returned (.int .i64 (leftL n zs)) ∧ Below w.heap.size w w' :=
  (left_any n v zs w h hb hn hr).mono fun _ _ ⟨he, hw⟩ => ⟨he, by rw [hw]; exact Below.refl _ _⟩

set_option maxRecDepth 100000 in
set_option maxHeartbeats 1000000 in
theorem shareRuns_any (w : World) :
    Calls Try.prog 3 #[] w fun e w' => e = .returned (.bool true) ∧ Below w.heap.size w w' := by
  have q1 : inOrd (max 10 0) [4, 7, 3] = [4, 6, 0] := by decide +kernel
  have q2 : proL 10 [1, 1, 1] = [1, 1, 1] := by decide +kernel
  have q3 : proL 2 [1, 1, 1] = [1, 1, 0] := by decide +kernel
  have q4 : proL 100 [3, 6] = [3, 6] := by decide +kernel
  have q5 : leftL 9 [2, 3] = 4 := by decide +kernel
  have q6 : leftL 3 [9] = 0 := by decide +kernel
  have Q1 : Hid (inOrd (max 10 0) [4, 7, 3] = [4, 6, 0]) := q1
  have Q2 : Hid (proL 10 [1, 1, 1] = [1, 1, 1]) := q2
  have Q3 : Hid (proL 2 [1, 1, 1] = [1, 1, 0]) := q3
  have Q4 : Hid (proL 100 [3, 6] = [3, 6]) := q4
  have Q5 : Hid (leftL 9 [2, 3] = 4) := q5
  have Q6 : Hid (leftL 3 [9] = 0) := q6
  have hB := Below.refl w.heap.size w
  clear q1 q2 q3 q4 q5 q6
  go_enter Try.func3, Try.ntmps3
  go_wp2_with (first
    | (go_at_call 10; refine (inOrder_b _ _ _ _ (by (first | with_reducible exact reads_three _ _ _ _ | with_reducible exact reads_two _ _ _ | with_reducible exact reads_one _ _)) (by simp) (by omega)).mono ?_; rintro e wn ⟨g, _, rfl, rn, bn⟩; rw [Q1.out] at rn; (simp only [List.length_cons, List.length_nil, Nat.zero_add, Nat.reduceAdd] at rn); replace hB := below_then (by (first | with_reducible exact hB | with_reducible exact below_alloc hB _ | with_reducible exact below_alloc (below_alloc hB _) _ | with_reducible exact below_alloc (below_alloc (below_alloc hB _) _) _)) bn; clear bn)
    | (go_at_call 11; refine (pro_b _ _ _ _ (by (first | with_reducible exact reads_three _ _ _ _ | with_reducible exact reads_two _ _ _ | with_reducible exact reads_one _ _)) (by simp)).mono ?_; rintro e wn ⟨g, _, rfl, rn, bn⟩; (first | rw [Q2.out] at rn | rw [Q3.out] at rn | rw [Q4.out] at rn); (simp only [List.length_cons, List.length_nil, Nat.zero_add, Nat.reduceAdd] at rn); replace hB := below_then (by (first | with_reducible exact hB | with_reducible exact below_alloc hB _ | with_reducible exact below_alloc (below_alloc hB _) _ | with_reducible exact below_alloc (below_alloc (below_alloc hB _) _) _)) bn; clear bn)
    | (go_at_call 9; refine (same_b _ _ _ _ (rn.below ((Below.refl _ _).alloc (Nat.le_refl _) _)) (by (first | with_reducible exact reads_three _ _ _ _ | with_reducible exact reads_two _ _ _ | with_reducible exact reads_one _ _))).mono ?_; rintro e wn ⟨rfl, bn⟩; clear rn; replace hB := below_then (by (first | with_reducible exact hB | with_reducible exact below_alloc hB _ | with_reducible exact below_alloc (below_alloc hB _) _ | with_reducible exact below_alloc (below_alloc (below_alloc hB _) _) _)) bn; clear bn)
    | (go_at_call 12; refine (left_b _ _ _ _ (by (first | with_reducible exact reads_three _ _ _ _ | with_reducible exact reads_two _ _ _ | with_reducible exact reads_one _ _)) (by simp) (by omega) (by decide)).mono ?_; rintro e wn ⟨rfl, bn⟩; (first | rw [Q5.out] | rw [Q6.out]); replace hB := below_then (by (first | with_reducible exact hB | with_reducible exact below_alloc hB _ | with_reducible exact below_alloc (below_alloc hB _) _ | with_reducible exact below_alloc (below_alloc (below_alloc hB _) _) _)) bn; clear bn))
  go_ret
  exact ⟨rfl, by (first | with_reducible exact hB | with_reducible exact below_alloc hB _ | with_reducible exact below_alloc (below_alloc hB _) _ | with_reducible exact below_alloc (below_alloc (below_alloc hB _) _) _)⟩
end Go.Proofs.Ytmchjfiaphkpdaa
