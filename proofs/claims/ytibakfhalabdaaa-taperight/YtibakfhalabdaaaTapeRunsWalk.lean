/-
  The walk of TapeRuns.
-/
import Derived.Test.YtibakfhalabdaaaTapeRight
namespace Go.Proofs.Ytibakfhalabdaaa
open Go.RowKit

/-- The lines of the run. -/
def runL : List LineT := [⟨1, 5, 2, 3, 0, 0, false⟩, ⟨4, 0, 0, 1, 7, 2, true⟩]
def runZ : List LineT := [⟨0, 0, 0, 0, 0, 0, false⟩]
theorem runL_tot : sumT runL = ⟨5, 2, 4, 7, 1⟩ := by kernel_rfl
theorem runL_right : rightT runL = true ∧ rightT runZ = false := by decide +kernel
theorem runL_am : ∀ x ∈ runL, x.Am := by
  intro x hx
  simp only [runL, List.mem_cons, List.not_mem_nil, or_false] at hx
  rcases hx with rfl | rfl <;> constructor <;> decide

set_option maxRecDepth 100000 in
set_option maxHeartbeats 2000000 in
theorem tapeRuns_any (w : World) :
    Calls Try.prog 3 #[] w fun e w' => e = .returned (.bool true) ∧ Below w.heap.size w w' := by
  have L1 : Hid (∀ wx : World, Lies 7 LineT.f (wx.alloc (.cells #[.int .i64 1, .int .i64 5, .int .i64 2, .int .i64 3, .int .i64 0, .int .i64 0, .bool false, .int .i64 4, .int .i64 0, .int .i64 0, .int .i64 1, .int .i64 7, .int .i64 2, .bool true] 23)) (.slice (some ⟨wx.heap.size, 0, none⟩) 2 2) runL) := fun wx => lies_new LineT.len wx runL 23 (by unfold maxLen; simp [runL])
  have L2 : Hid (∀ wx : World, Lies 7 LineT.f (wx.alloc (.cells #[.int .i64 0, .int .i64 0, .int .i64 0, .int .i64 0, .int .i64 0, .int .i64 0, .bool false] 23)) (.slice (some ⟨wx.heap.size, 0, none⟩) 1 1) runZ) := fun wx => lies_new LineT.len wx runZ 23 (by unfold maxLen; simp [runZ])
  have T1 : Hid ((sumT runL).v = .agg #[.int .i64 5, .int .i64 2, .int .i64 4, .int .i64 7, .int .i64 1]) := by show _ = _; rw [runL_tot]; rfl
  have A1 : Hid (∀ x ∈ runL, x.Am) := runL_am
  have R1 : Hid (rightT runL = true ∧ rightT runZ = false) := runL_right
  have C1 : Hid (TotT.Bd 2305843009213693951 ⟨5, 2, 4, 7, 1⟩) := ⟨by decide, by decide, by decide, by decide, by decide, by decide, by decide, by decide, by decide, by decide⟩
  go_enter Try.func3, Try.ntmps3
  go_upto_region 3 with (go_at_call 7; refine (tsum_any _ runL _ (L1.out w) A1.out (by simp [runL])).mono ?_; rintro e w1 ⟨rfl, d1⟩; rw [T1.out]; have b1 := below_then (below_alloc (Below.refl _ w) _) d1; have l1 := (L1.out w).below d1)
  have h8 : w1.heap.size ≤ w1.heap.size := Nat.le_refl _
  go_wp2_with (first
    | (go_at_call 8; have _m := h8; refine (tright_any _ runL _ (l1.below (below_alloc (Below.refl _ _) _))).mono ?_; rintro e w2 ⟨rfl, d2⟩; rw [R1.out.1]; have b2 := below_then (below_alloc b1 _) d2; have y0 := cell_keep d2 (v := .int .i64 5) (a := ⟨w1.heap.size, 0, none⟩) (by simp [go_sem]); have y1 := cell_keep d2 (v := .int .i64 2) (a := ⟨w1.heap.size, 1, none⟩) (by simp [go_sem]); have y2 := cell_keep d2 (v := .int .i64 4) (a := ⟨w1.heap.size, 2, none⟩) (by simp [go_sem]); have y3 := cell_keep d2 (v := .int .i64 7) (a := ⟨w1.heap.size, 3, none⟩) (by simp [go_sem]); have y4 := cell_keep d2 (v := .int .i64 1) (a := ⟨w1.heap.size, 4, none⟩) (by simp [go_sem]); clear h8 _m)
    | (go_at_call 9; refine (cash_any ⟨5, 2, 4, 7, 1⟩ C1.out _).mono ?_; rintro e w3 ⟨rfl, d3⟩; unfold TotT.cash)
    | (go_at_call 8; refine (tright_any _ runZ _ (L2.out w3)).mono ?_; rintro e w4 ⟨rfl, d4⟩; rw [R1.out.2]))
  go_ret
  exact ⟨rfl, below_then (below_alloc (below_then b2 d3) _) d4⟩
end Go.Proofs.Ytibakfhalabdaaa
