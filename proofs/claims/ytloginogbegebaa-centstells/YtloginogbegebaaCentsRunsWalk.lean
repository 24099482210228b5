/-
  The walk of CentsRuns.
-/
import Derived.Test.YtloginogbegebaaMulDiv
namespace Go.Proofs.Ytloginogbegebaa
open Go.RowKit

theorem reads_one (w : World) (a : Int) : Reads (w.alloc (.cells #[.int .i64 a] 3)) (.slice (some ⟨w.heap.size, 0, none⟩) 1 1) [a] := by
  refine ⟨_, 1, rfl, by simp, by simp [maxLen], Or.inr ⟨w.heap.size, 0, rfl, ?_⟩⟩
  intro i hi
  match i, hi with
  | 0, _ => simp

theorem reads_two (w : World) (a b : Int) : Reads (w.alloc (.cells #[.int .i64 a, .int .i64 b] 3)) (.slice (some ⟨w.heap.size, 0, none⟩) 2 2) [a, b] := by
  refine ⟨_, 2, rfl, by simp, by simp [maxLen], Or.inr ⟨w.heap.size, 0, rfl, ?_⟩⟩
  intro i hi
  match i, hi with
  | 0, _ => simp
  | 1, _ => simp

theorem below_alloc {a w : World} (h : Below a.heap.size a w) (o : Obj) : Below a.heap.size a (w.alloc o) := h.alloc h.size o

set_option maxHeartbeats 1000000 in
theorem centsRuns_any (w : World) :
    Calls Try.prog 3 #[] w fun e w' => e = .returned (.bool true) ∧ Below w.heap.size w w' := by
  have r1 : mdV 10 1 4 0 = 2 := by decide +kernel
  have r2 : mdB 10 1 4 0 = true := by decide +kernel
  have r3 : mdV 10 1 4 1 = 3 := by decide +kernel
  have r4 : mdB 10 1 4 1 = true := by decide +kernel
  have r5 : mdV 10 1 4 2 = 2 := by decide +kernel
  have r6 : mdB 10 1 4 2 = true := by decide +kernel
  have r7 : mdV 1152921504606846976 1152921504606846976 1152921504606846976 0 = 1152921504606846976 := by decide +kernel
  have r8 : mdB 1152921504606846976 1152921504606846976 1152921504606846976 0 = true := by decide +kernel
  go_enter Try.func3, Try.ntmps3
  go_wp2_with fail
  refine (mulDiv_any _ _ _ _ _).mono ?_
  rintro e w1 ⟨rfl, b1⟩
  rw [r1, r2]
  go_wp2_with fail
  refine (mulDiv_any _ _ _ _ _).mono ?_
  rintro e w2 ⟨rfl, b2⟩
  rw [r3, r4]
  go_wp2_with fail
  refine (mulDiv_any _ _ _ _ _).mono ?_
  rintro e w3 ⟨rfl, b3⟩
  rw [r5, r6]
  go_wp2_with fail
  refine (mulDiv_any _ _ _ _ _).mono ?_
  rintro e w4 ⟨rfl, b4⟩
  rw [r7, r8]
  have b14 : Below w.heap.size w w4 := ((b1.trans (b2.mono b1.size)).trans (b3.mono (Nat.le_trans b1.size b2.size))).trans (b4.mono (Nat.le_trans b1.size (Nat.le_trans b2.size b3.size)))
  clear b1 b2 b3 b4 r1 r2 r3 r4 r5 r6 r7 r8
  go_wp2_with fail
  refine (sum_any _ _ _ (reads_three w4 1 2 3)).mono ?_
  rintro e w5 ⟨rfl, h5⟩
  rw [show sumFrom [1, 2, 3] 0 = some 6 by decide +kernel]
  have b15 : Below w.heap.size w w5 := by rw [h5]; exact below_alloc b14 _
  clear h5 b14
  go_wp2_with fail
  refine (sum_any _ _ _ (reads_two w5 1152921504606846976 1)).mono ?_
  rintro e w6 ⟨rfl, h6⟩
  rw [show sumFrom [1152921504606846976, 1] 0 = none by decide +kernel]
  have b16 : Below w.heap.size w w6 := by rw [h6]; exact below_alloc b15 _
  clear h6 b15
  go_wp2_with fail
  refine (sum_any _ _ _ (reads_one w6 (-1))).mono ?_
  rintro e w7 ⟨rfl, h7⟩
  rw [show sumFrom [-1] 0 = none by decide +kernel]
  have b17 : Below w.heap.size w w7 := by rw [h7]; exact below_alloc b16 _
  clear h7 b16
  go_wp2_with fail
  refine (least_any _ _ _ (reads_two w7 5 3)).mono ?_
  rintro e w8 ⟨rfl, h8⟩
  rw [show leastL [5, 3] = 3 by decide +kernel]
  have b18 : Below w.heap.size w w8 := by rw [h8]; exact below_alloc b17 _
  clear h8 b17
  go_wp2
  go_ret
  exact ⟨rfl, b18⟩
end Go.Proofs.Ytloginogbegebaa
