/-
  The walk of PoolRuns; Apply's two outcomes, each by itself.
-/
import Derived.Test.YtoijgognbfifbaaPoolMore
namespace Go.Proofs.Ytoijgognbfifbaa
open Go.RowKit

theorem apply_yesX {b : Nat} {p q : List LoanP} {a : AggP} {l : Value} {xs : List LineT} {w : World} {B : Int} (h : applyP p xs = some (q, a)) (hP : PoolM w b p) (hl : Lies 7 LineT.f w l xs) (hW : ∀ o ∈ p, o.Wf B) (hB : B ≤ 2199023255552) (hn : p.length ≤ 64) :
    Calls Try.prog 8 #[.pointer (some ⟨b, 0, none⟩), l] w fun e w' => e = .returned (.tuple #[a.v, .int .i64 0]) ∧ Rest b w w' ∧ PoolM w' b q ∧ ∀ h, h < w.heap.size → h ≠ b → PoolX w' b q h :=
  (apply_any b p l xs w B hP hl hW hB hn).mono fun e w' hh => by
    rcases hh with ⟨h1, _⟩ | ⟨q', a', h1, h2⟩
    · rw [h] at h1; cases h1
    · rw [h] at h1
      injection h1 with h1
      injection h1 with h3 h4
      subst h3 h4
      exact h2
theorem apply_yes {b : Nat} {p q : List LoanP} {a : AggP} {l : Value} {xs : List LineT} {w : World} {B : Int} (h : applyP p xs = some (q, a)) (hP : PoolM w b p) (hl : Lies 7 LineT.f w l xs) (hW : ∀ o ∈ p, o.Wf B) (hB : B ≤ 2199023255552) (hn : p.length ≤ 64) :
    Calls Try.prog 8 #[.pointer (some ⟨b, 0, none⟩), l] w fun e w' => e = .returned (.tuple #[a.v, .int .i64 0]) ∧ Rest b w w' ∧ PoolM w' b q :=
  (apply_yesX h hP hl hW hB hn).mono fun _ _ ⟨h1, h2, h3, _⟩ => ⟨h1, h2, h3⟩
theorem apply_no {b : Nat} {p : List LoanP} {l : Value} {xs : List LineT} {w : World} {B : Int} (h : applyP p xs = none) (hP : PoolM w b p) (hl : Lies 7 LineT.f w l xs) (hW : ∀ o ∈ p, o.Wf B) (hB : B ≤ 2199023255552) (hn : p.length ≤ 64) :
    Calls Try.prog 8 #[.pointer (some ⟨b, 0, none⟩), l] w fun e w' => e = .returned (.tuple #[AggP.zero.v, .int .i64 3]) ∧ Below w.heap.size w w' :=
  (apply_any b p l xs w B hP hl hW hB hn).mono fun e w' hh => by
    rcases hh with ⟨_, h2⟩ | ⟨q', a', h1, _⟩
    · exact h2
    · rw [h] at h1; cases h1

/-- The loans, the tapes of the run. -/
def runLn : List LnT := [⟨1, 100⟩]
def runP0 : List LoanP := [⟨1, 100, 0, 0, false⟩]
def runP1 : List LoanP := [⟨1, 0, 50, 0, true⟩]
def runX1 : List LineT := [⟨1, 30, 0, 0, 20, 0, true⟩]
def runX2 : List LineT := [⟨1, 1, 0, 0, 0, 0, false⟩]
theorem run_yes : applyP runP0 runX1 = some (runP1, ⟨30, 0, 70, 20⟩) := by rfl
theorem run_no : applyP runP1 runX2 = none := by rfl
theorem run_wf0 : ∀ o ∈ runP0, o.Wf 100 := by
  intro o ho
  simp only [runP0, List.mem_cons, List.not_mem_nil, or_false] at ho
  subst ho
  constructor <;> simp
theorem run_wf1 : ∀ o ∈ runP1, o.Wf 100 := by
  intro o ho
  simp only [runP1, List.mem_cons, List.not_mem_nil, or_false] at ho
  subst ho
  constructor <;> simp

set_option maxRecDepth 100000 in
set_option maxHeartbeats 2000000 in
theorem poolRuns_any (w : World) :
    Calls Try.prog 3 #[] w fun e w' => e = .returned (.bool true) ∧ Below w.heap.size w w' := by
  have L0 : Hid (∀ wx : World, Lies 2 LnT.f (wx.alloc (.cells #[.int .i64 1, .int .i64 100] 25)) (.slice (some ⟨wx.heap.size, 0, none⟩) 1 1) runLn) := fun wx => lies_new LnT.len wx runLn 25 (by unfold maxLen; simp [runLn])
  have L1 : Hid (∀ wx : World, Lies 7 LineT.f (wx.alloc (.cells #[.int .i64 1, .int .i64 30, .int .i64 0, .int .i64 0, .int .i64 20, .int .i64 0, .bool true] 32)) (.slice (some ⟨wx.heap.size, 0, none⟩) 1 1) runX1) := fun wx => lies_new LineT.len wx runX1 32 (by unfold maxLen; simp [runX1])
  have L2 : Hid (∀ wx : World, Lies 7 LineT.f (wx.alloc (.cells #[.int .i64 1, .int .i64 1, .int .i64 0, .int .i64 0, .int .i64 0, .int .i64 0, .bool false] 32)) (.slice (some ⟨wx.heap.size, 0, none⟩) 1 1) runX2) := fun wx => lies_new LineT.len wx runX2 32 (by unfold maxLen; simp [runX2])
  have S1 : Hid (sumBy LoanP.bal runP1 = 0 ∧ sumBy LoanP.lost runP1 = 50) := by show _ ∧ _; decide
  go_enter Try.func3, Try.ntmps3
  go_upto_region 2 with (go_at_call 7; refine (new_any _ runLn _ (L0.out w) (by simp [runLn])).mono ?_; rintro e w1 ⟨b, rfl, hb, d1, hP⟩)
  have hbw : w.heap.size ≤ b := Nat.le_trans (by simp) hb
  have b1 := below_then (below_alloc (Below.refl _ w) _) d1
  have P0 : Hid (PoolM w1 b runP0) := hP
  clear hb d1 hP
  go_upto_region 4 with fail
  go_upto_region 5 with (go_at_call 8; refine (apply_yes run_yes (P0.out.below (below_alloc (Below.refl _ _) _)) (L1.out w1) run_wf0 (by decide) (by simp [runP0])).mono ?_; rintro e w2 ⟨rfl, k2, hP2⟩; unfold AggP.v)
  refine wp_letter (fun wx => ∃ g, w2.heap.size = g ∧ Blk wx g 27 (AggP.f ⟨30, 0, 70, 20⟩) ∧ PoolM wx b runP1 ∧ Below w.heap.size w wx) ⟨_, rfl, Blk.fresh _ _ _, hP2.below (below_alloc (Below.refl _ _) _), below_alloc (k2.below (below_alloc b1 _) hbw (below_alloc b1 _).size) _⟩ ?_
  clear k2 hP2 b1 P0
  rintro W ⟨g, eg, kg, hP, b1⟩
  rw [eg]
  clear eg
  have P1 : Hid (PoolM W b runP1) := hP
  clear hP
  go_upto_region 6 with (go_at_call 8; refine (apply_no run_no (P1.out.below (below_alloc (Below.refl _ _) _)) (L2.out W) run_wf1 (by decide) (by simp [runP1])).mono ?_; rintro e w3 ⟨rfl, d3⟩; unfold AggP.v AggP.zero)
  have b3 := below_alloc (below_then b1 (below_then (below_alloc (Below.refl _ _) _) d3)) (.cells #[.int .i64 0, .int .i64 0, .int .i64 0, .int .i64 0] 27)
  have P3 : Hid (PoolM (w3.alloc (.cells #[.int .i64 0, .int .i64 0, .int .i64 0, .int .i64 0] 27)) b runP1) := P1.out.below (below_alloc (below_then (below_alloc (Below.refl _ _) _) d3) _)
  have kg3 := kg.then (below_alloc (below_then (below_alloc (Below.refl _ _) (.cells #[.int .i64 1, .int .i64 1, .int .i64 0, .int .i64 0, .int .i64 0, .int .i64 0, .bool false] 32)) d3) (.cells #[.int .i64 0, .int .i64 0, .int .i64 0, .int .i64 0] 27))
  refine wp_letter (fun wx => Below w.heap.size w wx ∧ PoolM wx b runP1 ∧ Blk wx g 27 (AggP.f ⟨30, 0, 70, 20⟩)) ⟨b3, P3.out, kg3⟩ ?_
  clear b3 P3 kg3 d3 P1 kg b1
  rintro X ⟨bX, hP, kg⟩
  have PX : Hid (PoolM X b runP1) := hP
  have y0 := kg.cell 0 _ rfl; have y1 := kg.cell 1 _ rfl; have y2 := kg.cell 2 _ rfl; have y3 := kg.cell 3 _ rfl
  clear hP kg
  go_wp2_with (first
    | ((go_at_call 9; refine (balance_any b runP1 _ 100 PX.out run_wf1 (by decide) (by simp [runP1])).mono ?_; rintro e w4 ⟨rfl, d4⟩; rw [S1.out.1]; have P4 := PX.out.below d4))
    | ((go_at_call 10; refine (lost_any b runP1 _ 100 P4 run_wf1 (by decide) (by simp [runP1])).mono ?_; rintro e w5 ⟨rfl, d5⟩; rw [S1.out.2])))
  go_ret
  exact ⟨rfl, below_then (below_then bX d4) d5⟩
theorem poolRuns_k {w : World} {R : Ending → World → Prop} (k : ∀ w', Below w.heap.size w w' → R (.returned (.bool true)) w') : Calls Try.prog 3 #[] w R :=
  (poolRuns_any w).mono fun _ w' ⟨e2, b⟩ => e2 ▸ k w' b
end Go.Proofs.Ytoijgognbfifbaa
