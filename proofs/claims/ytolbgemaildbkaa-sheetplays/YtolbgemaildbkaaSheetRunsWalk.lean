/-
  The walk of SheetRuns.
-/
import Derived.Test.YtolbgemaildbkaaMove
namespace Go.Proofs.Ytolbgemaildbkaa
open Go.RowKit

/-- Numbers laid in a block of their own. -/
theorem reads_new (w : World) (zs : List Int) (e : TypeId) (hx : zs.length ≤ maxLen) : Reads (w.alloc (.cells (zs.map (Value.int .i64)).toArray e)) (.slice (some ⟨w.heap.size, 0, none⟩) zs.length zs.length) zs := by
  refine ⟨_, zs.length, rfl, Nat.le_refl _, hx, Or.inr ⟨_, 0, rfl, fun i hi => ?_⟩⟩
  have := (Blk.fresh w e (zs.map (Value.int .i64))).cell i (.int .i64 (zs.getD i 0)) (by rw [List.getElem?_map, List.getElem?_eq_getElem hi]; simp [hi])
  rw [Nat.zero_add]
  exact this
theorem zeros_ok (k : Nat) : ∀ x ∈ List.replicate k (0 : Int), amtOk x = true := by
  intro x hx
  rw [List.eq_of_mem_replicate hx]
  decide

/-- The balances behind each call of the run. -/
def run1 : List Int := -5 :: 5 :: List.replicate 62 0
def run2 : List Int := -5 :: 3 :: 2 :: List.replicate 61 0
theorem run_move : moveB 3 (List.replicate 64 0) 0 1 5 = true ∧ moveL 3 (List.replicate 64 0) 0 1 5 = run1 ∧ moveC 3 (List.replicate 64 0) 0 1 5 0 = 1 := by
  refine ⟨?_, ?_, ?_⟩ <;> decide +kernel
theorem run_post : postB 3 run1 [⟨1, -2⟩, ⟨2, 2⟩] = true ∧ postL 3 run1 [⟨1, -2⟩, ⟨2, 2⟩] = run2 ∧ postC 3 run1 [⟨1, -2⟩, ⟨2, 2⟩] 1 = 2 := by
  refine ⟨?_, ?_, ?_⟩ <;> decide +kernel
theorem run_not : postB 3 run2 [⟨0, 1⟩] = false ∧ postL 3 run2 [⟨0, 1⟩] = run2 ∧ postC 3 run2 [⟨0, 1⟩] 2 = 2 := by
  refine ⟨?_, ?_, ?_⟩ <;> decide +kernel
theorem run1_ok : ∀ x ∈ run1, amtOk x = true := by decide +kernel
theorem run2_ok : ∀ x ∈ run2, amtOk x = true := by decide +kernel
theorem run2_take : run2.take 3 = [-5, 3, 2] := rfl

set_option maxRecDepth 100000 in
set_option maxHeartbeats 2000000 in
theorem sheetRuns_any (w : World) :
    Calls Try.prog 3 #[] w fun e w' => e = .returned (.bool true) ∧ Below w.heap.size w w' := by
  have en : accN 3 = 3 := by decide
  have A1 : Hid (moveB 3 (List.replicate 64 0) 0 1 5 = true ∧ moveL 3 (List.replicate 64 0) 0 1 5 = run1 ∧ moveC 3 (List.replicate 64 0) 0 1 5 0 = 1) := run_move
  have A2 : Hid (postB 3 run1 [⟨1, -2⟩, ⟨2, 2⟩] = true ∧ postL 3 run1 [⟨1, -2⟩, ⟨2, 2⟩] = run2 ∧ postC 3 run1 [⟨1, -2⟩, ⟨2, 2⟩] 1 = 2) := run_post
  have A3 : Hid (postB 3 run2 [⟨0, 1⟩] = false ∧ postL 3 run2 [⟨0, 1⟩] = run2 ∧ postC 3 run2 [⟨0, 1⟩] 2 = 2) := run_not
  have O1 : Hid (∀ x ∈ run1, amtOk x = true) := run1_ok
  have O2 : Hid (∀ x ∈ run2, amtOk x = true) := run2_ok
  have I1 : Hid (∀ e ∈ ([⟨1, -2⟩, ⟨2, 2⟩] : List Ent), I64 e.amt) := by
    intro e he
    simp only [List.mem_cons, List.not_mem_nil, or_false] at he
    rcases he with rfl | rfl <;> exact ⟨by simp only; omega, by simp only; omega⟩
  have I2 : Hid (∀ e ∈ ([⟨0, 1⟩] : List Ent), I64 e.amt) := by
    intro e he
    simp only [List.mem_cons, List.not_mem_nil, or_false] at he
    rcases he with rfl; exact ⟨by simp only; omega, by simp only; omega⟩
  have L1 : Hid (∀ wx : World, Lies 2 Ent.f (wx.alloc (.cells #[.int .i64 1, .int .i64 (-2), .int .i64 2, .int .i64 2] 27)) (.slice (some ⟨wx.heap.size, 0, none⟩) 2 2) [⟨1, -2⟩, ⟨2, 2⟩]) := fun wx => lies_new Ent.len wx [⟨1, -2⟩, ⟨2, 2⟩] 27 (by unfold maxLen; simp)
  have L2 : Hid (∀ wx : World, Lies 2 Ent.f (wx.alloc (.cells #[.int .i64 0, .int .i64 1] 27)) (.slice (some ⟨wx.heap.size, 0, none⟩) 1 1) [⟨0, 1⟩]) := fun wx => lies_new Ent.len wx [⟨0, 1⟩] 27 (by unfold maxLen; simp)
  have R1 : Hid (∀ wx : World, Reads (wx.alloc (.cells #[.int .i64 (-5), .int .i64 3, .int .i64 2] 3)) (.slice (some ⟨wx.heap.size, 0, none⟩) 3 3) [-5, 3, 2]) := fun wx => reads_new wx [-5, 3, 2] 3 (by unfold maxLen; simp)
  have T1 : Hid (run2.take 3 = [-5, 3, 2]) := run2_take
  go_enter Try.func3, Try.ntmps3
  go_upto_region 4 with (go_at_call 8; refine (new_any _ _).mono ?_; rintro e w1 ⟨rfl, s1, b1⟩; rw [en] at s1)
  obtain ⟨A, hA⟩ : ∃ A, w.heap.size = A := ⟨_, rfl⟩
  have hA2 : w.heap.size ≤ A := Nat.le_of_eq hA
  rw [hA] at s1 ⊢
  have Z0 : Hid (∀ x ∈ List.replicate 64 (0 : Int), amtOk x = true) := zeros_ok 64
  have HA : Hid (w.heap.size = A) := hA
  clear hA
  go_upto_region 5 with (first
    | (go_at_call 9; refine (move_to s1 Z0.out (by omega) (by omega) A1.out.1 A1.out.2.1 A1.out.2.2).mono ?_; rintro e w2 ⟨rfl, s2, r2⟩; have b2 := r2.below b1 hA2 b1.size)
    | (go_at_call 10; refine (post_to (s2.then (below_alloc (Below.refl _ _) _)) (L1.out w2) I1.out O1.out (by omega) (by omega) A2.out.1 A2.out.2.1 A2.out.2.2).mono ?_; rintro e w3 ⟨rfl, s3, r3⟩; have b3 := r3.below (below_alloc b2 _) hA2 (below_alloc b2 _).size))
  clear s1 s2 r2 b1 b2 r3 A1 A2 O1 I1 L1 Z0
  go_wp2_with (first
    | (go_at_call 10; refine (post_to (s3.then (below_alloc (Below.refl _ _) _)) (L2.out w3) I2.out O2.out (by omega) (by omega) A3.out.1 A3.out.2.1 A3.out.2.2).mono ?_; rintro e w4 ⟨rfl, s4, r4⟩; have b4 := r4.below (below_alloc b3 _) hA2 (below_alloc b3 _).size)
    | (go_at_call 12; refine (balances_any _ _ _ _ _ s4).mono ?_; rintro e w5 ⟨rfl, d5, b5⟩; rw [T1.out] at d5; have s5 := (s4.then b5).then (below_alloc (Below.refl _ _) (.cells #[.int .i64 (-5), .int .i64 3, .int .i64 2] 3)))
    | (go_at_call 11; refine (same_any _ _ [-5, 3, 2] _ (d5.below (below_alloc (Below.refl _ _) _)) (R1.out w5)).mono ?_; rintro e w6 ⟨rfl, m6, rfl⟩)
    | (go_at_call 13; refine (count_any _ _ _ _ _ (s5.then (below_draws (Below.refl _ _) _))).mono ?_; rintro e wq ⟨rfl, hq⟩; have hq := hq.symm; subst hq))
  go_ret
  exact ⟨rfl, below_draws (below_alloc (below_then b4 b5) _) _⟩
end Go.Proofs.Ytolbgemaildbkaa
