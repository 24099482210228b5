/-
  The walk of PoolOver.
-/
import Derived.Test.YtoijgognbfifbaaPoolRunsWalk
import Derived.Test.YtoijgognbfifbaaBook
namespace Go.Proofs.Ytoijgognbfifbaa
open Go.RowKit

/-- The second loan. -/
def ovS : LoanP := ⟨7, 50, 0, 0, false⟩
theorem ov_no0 (b : Int) : applyP [⟨3, b, 0, 0, false⟩, ovS] [⟨7, 0, 0, 0, 1, 0, false⟩] = none := by
  simp [applyP, ovS, runP, atP, mayP, kindP]
theorem ov_yes1 {b x : Int} (h0 : 0 ≤ x) (h1 : x ≤ b) (h2 : b ≤ 1073741824) : applyP [⟨3, b, 0, 0, false⟩, ovS] [⟨3, x, 0, 0, 0, 0, true⟩] = some ([⟨3, 0, b - x, 0, true⟩, ovS], ⟨x, 0, b - x, 0⟩) := by
  have e1 : rightT [⟨3, x, 0, 0, 0, 0, true⟩] = true := by
    simp [rightT, rightFrom, LineT.ok, inAll, inTo]
    omega
  have e2 : mayP ⟨3, b, 0, 0, false⟩ ⟨3, x, 0, 0, 0, 0, true⟩ = true := by
    simp [mayP, kindP, lostP, leftP]
    omega
  simp [applyP, e1, runP, atP, e2, doP, aggP, lostP, leftP, AggP.plus, AggP.zero]
theorem ov_yes2 {d k : Int} (h0 : 0 ≤ k) (h1 : k ≤ d) (h2 : d ≤ 1073741824) : applyP [⟨3, 0, d, 0, true⟩, ovS] [⟨3, 0, 0, 0, k, 0, false⟩] = some ([⟨3, 0, d - k, 0, true⟩, ovS], ⟨0, 0, 0, k⟩) := by
  have e1 : rightT [⟨3, 0, 0, 0, k, 0, false⟩] = true := by
    simp [rightT, rightFrom, LineT.ok, inAll, inTo]
    omega
  have e2 : mayP ⟨3, 0, d, 0, true⟩ ⟨3, 0, 0, 0, k, 0, false⟩ = true := by
    simp [mayP, kindP, lostP]
    omega
  simp [applyP, e1, runP, atP, e2, doP, aggP, lostP, leftP, AggP.plus, AggP.zero]
theorem ov_no3 {d : Int} {l : LineT} (hi : l.id = 3) (h : l.pr ≠ 0 ∨ l.it ≠ 0 ∨ l.df = true ∨ l.lt ≠ 0 ∨ d < l.rc) : applyP [⟨3, 0, d, 0, true⟩, ovS] [l] = none := by
  have e2 : mayP ⟨3, 0, d, 0, true⟩ l = false := by
    cases hm : mayP ⟨3, 0, d, 0, true⟩ l with
    | false => rfl
    | true =>
      obtain ⟨hk, _, h2⟩ := mayP_iff hm
      obtain ⟨k1, k2, k3, k4, k5⟩ := kindP_over hk rfl
      rw [k1, k3, k4, k5] at h
      rw [lostP, if_neg (by simp [k5])] at h2
      simp only at h2
      simp at h
      omega
  unfold applyP
  split
  · simp [runP, atP, hi, e2]
  · rfl
theorem ov_wf0 {b : Int} (h0 : 0 ≤ b) (h2 : b ≤ 1073741824) : ∀ o ∈ [⟨3, b, 0, 0, false⟩, ovS], o.Wf 1073741824 := by
  intro o ho
  simp only [List.mem_cons, List.not_mem_nil, or_false] at ho
  rcases ho with rfl | rfl
  · constructor <;> simp <;> omega
  · constructor <;> simp [ovS]
theorem ov_wf1 {d : Int} (h0 : 0 ≤ d) (h2 : d ≤ 1073741824) : ∀ o ∈ [⟨3, 0, d, 0, true⟩, ovS], o.Wf 1073741824 := by
  intro o ho
  simp only [List.mem_cons, List.not_mem_nil, or_false] at ho
  rcases ho with rfl | rfl
  · constructor <;> simp <;> omega
  · constructor <;> simp [ovS]
theorem ov_sums0 (b : Int) : sumBy LoanP.bal [⟨3, b, 0, 0, false⟩, ovS] = b + 50 ∧ sumBy LoanP.lost [⟨3, b, 0, 0, false⟩, ovS] = 0 := by simp [sumBy, ovS]
theorem ov_sums1 (d : Int) : sumBy LoanP.bal [⟨3, 0, d, 0, true⟩, ovS] = 50 ∧ sumBy LoanP.lost [⟨3, 0, d, 0, true⟩, ovS] = d := by simp [sumBy, ovS]
/-- One line laid in a block of its own. -/
theorem line_new (x : LineT) (wx : World) : Lies 7 LineT.f (wx.alloc (.cells #[.int .i64 x.id, .int .i64 x.pr, .int .i64 x.pp, .int .i64 x.it, .int .i64 x.rc, .int .i64 x.lt, .bool x.df] 32)) (.slice (some ⟨wx.heap.size, 0, none⟩) 1 1) [x] := lies_new LineT.len wx [x] 32 (by unfold maxLen; simp)
/-- A pool whose loans lie in another block than h. -/
def PoolX (w : World) (b : Nat) (p : List LoanP) (h : Nat) : Prop := ∃ v, Blk w b 66 [v] ∧ Lies 5 LoanP.f w v p ∧ v.ownBlock ≠ some b ∧ v.ownBlock ≠ some h ∧ b ≠ h
theorem PoolM.x {w : World} {b h : Nat} {p : List LoanP} (hM : PoolM w b p) (hp : p ≠ []) (hh : w.heap.size ≤ h) : PoolX w b p h := by
  obtain ⟨v, h1, h2, h3⟩ := hM
  refine ⟨v, h1, h2, h3, fun e => ?_, fun e => by have := h1.lt; omega⟩
  obtain ⟨a, cap, rfl, k1, k2, k3, hz⟩ := h2
  rcases hz with hz | ⟨b', off, rfl, hc⟩
  · exact hp hz
  · cases p with
    | nil => exact hp rfl
    | cons o r =>
      have k5 : b' < w.heap.size := cell_block (hc 0 o rfl 0 _ rfl)
      have k6 : b' = h := by simpa [Value.ownBlock] using e
      omega
theorem PoolX.below {w w' : World} {b h : Nat} {p : List LoanP} (hM : PoolX w b p h) (k : Below w.heap.size w w') : PoolX w' b p h := by
  obtain ⟨v, h1, h2, h3⟩ := hM
  exact ⟨v, h1.then k, h2.below k, h3⟩
theorem PoolX.rest {w w' : World} {b h : Nat} {p : List LoanP} (hM : PoolX w b p h) (k : Rest h w w') : PoolM w' b p := by
  obtain ⟨v, h1, h2, h3, h4, h5⟩ := hM
  exact ⟨v, h1.rest k h5, h2.rest k h4, h3⟩
theorem Blk.put7 {w : World} {g : Nat} {t : TypeId} {a b c d e f h : Value} (k : Blk w g t [a, b, c, d, e, f, h]) (u0 u1 u2 u3 u4 u5 u6 : Value) :
    Blk (((((((w.setCell ⟨g, 0, none⟩ u0).setCell ⟨g, 1, none⟩ u1).setCell ⟨g, 2, none⟩ u2).setCell ⟨g, 3, none⟩ u3).setCell ⟨g, 4, none⟩ u4).setCell ⟨g, 5, none⟩ u5).setCell ⟨g, 6, none⟩ u6) g t [u0, u1, u2, u3, u4, u5, u6] := ((((((k.set 0 u0).set 1 u1).set 2 u2).set 3 u3).set 4 u4).set 5 u5).set 6 u6
theorem Rest.put7 (g : Nat) (w : World) (u0 u1 u2 u3 u4 u5 u6 : Value) : Rest g w (((((((w.setCell ⟨g, 0, none⟩ u0).setCell ⟨g, 1, none⟩ u1).setCell ⟨g, 2, none⟩ u2).setCell ⟨g, 3, none⟩ u3).setCell ⟨g, 4, none⟩ u4).setCell ⟨g, 5, none⟩ u5).setCell ⟨g, 6, none⟩ u6) := ((Rest.put5 g w u0 u1 u2 u3 u4).trans (Rest.set g 5 _ u5)).trans (Rest.set g 6 _ u6)
/-- How things stand: the pool at gP. -/
structure OvM (w wx : World) (g : Nat) (p : List LoanP) : Prop where
  below : Below w.heap.size w wx
  low : w.heap.size ≤ g
  pool : PoolM wx g p
theorem OvM.then {w wx wy : World} {g : Nat} {p : List LoanP} (h : OvM w wx g p) (k : Below wx.heap.size wx wy) : OvM w wy g p := ⟨below_then h.below k, h.low, h.pool.below k⟩
theorem OvM.on {w wx wy : World} {g : Nat} {p q : List LoanP} (h : OvM w wx g p) (k : Rest g wx wy) (hq : PoolM wy g q) : OvM w wy g q := ⟨k.below h.below h.low h.below.size, h.low, hq⟩
theorem OvM.alloc {w wx : World} {g : Nat} {p : List LoanP} (h : OvM w wx g p) (o : Obj) : OvM w (wx.alloc o) g p := h.then (below_alloc (Below.refl _ _) _)

theorem OvM.put7 {w wx : World} {b g : Nat} {p : List LoanP} (h : OvM w wx b p) (hx : PoolX wx b p g) (hg : w.heap.size ≤ g) (u0 u1 u2 u3 u4 u5 u6 : Value) : OvM w (((((((wx.setCell ⟨g, 0, none⟩ u0).setCell ⟨g, 1, none⟩ u1).setCell ⟨g, 2, none⟩ u2).setCell ⟨g, 3, none⟩ u3).setCell ⟨g, 4, none⟩ u4).setCell ⟨g, 5, none⟩ u5).setCell ⟨g, 6, none⟩ u6) b p :=
  ⟨(Rest.put7 g wx u0 u1 u2 u3 u4 u5 u6).below h.below hg h.below.size, h.low, hx.rest (Rest.put7 g wx u0 u1 u2 u3 u4 u5 u6)⟩

set_option maxRecDepth 100000 in
set_option maxHeartbeats 2000000 in
theorem poolOver_any (b0 x0 k0 n0 j0 : Int) (w : World) :
    Calls Try.prog 6 #[.int .i64 b0, .int .i64 x0, .int .i64 k0, .int .i64 n0, .int .i64 j0] w fun e w' => e = .returned (.bool true) ∧ Below w.heap.size w w' := by
  have hb1 := Int.emod_nonneg b0 (b := 1073741824 - 1 + 1) (by omega)
  have hb2 := Int.emod_lt_of_pos b0 (b := 1073741824 - 1 + 1) (by omega)
  obtain ⟨b, eb⟩ : ∃ b, 1 + b0 % (1073741824 - 1 + 1) = b := ⟨_, rfl⟩
  have EB : Hid (1 + b0 % (1073741824 - 1 + 1) = b) := eb
  have hbl : 1 ≤ b := by omega
  have hbu : b ≤ 1073741824 := by omega
  clear eb hb1 hb2
  have hx1 := Int.emod_nonneg x0 (b := b - 0 + 1) (by omega)
  have hx2 := Int.emod_lt_of_pos x0 (b := b - 0 + 1) (by omega)
  obtain ⟨x, ex⟩ : ∃ x, 0 + x0 % (b - 0 + 1) = x := ⟨_, rfl⟩
  have EX : Hid (0 + x0 % (b - 0 + 1) = x) := ex
  have hxl : 0 ≤ x := by omega
  have hxu : x ≤ b := by omega
  clear ex hx1 hx2
  have hk1 := Int.emod_nonneg k0 (b := b - x - 0 + 1) (by omega)
  have hk2 := Int.emod_lt_of_pos k0 (b := b - x - 0 + 1) (by omega)
  obtain ⟨k, ek⟩ : ∃ k, 0 + k0 % (b - x - 0 + 1) = k := ⟨_, rfl⟩
  have EK : Hid (0 + k0 % (b - x - 0 + 1) = k) := ek
  have hkl : 0 ≤ k := by omega
  have hku : k ≤ b - x := by omega
  clear ek hk1 hk2
  have hn1 := Int.emod_nonneg n0 (b := 999 - 0 + 1) (by omega)
  have hn2 := Int.emod_lt_of_pos n0 (b := 999 - 0 + 1) (by omega)
  obtain ⟨n, en⟩ : ∃ n, 0 + n0 % (999 - 0 + 1) = n := ⟨_, rfl⟩
  have EN : Hid (0 + n0 % (999 - 0 + 1) = n) := en
  have hnl : 0 ≤ n := by omega
  have hnu : n ≤ 999 := by omega
  clear en hn1 hn2
  have hj1 := Int.emod_nonneg j0 (b := 4 - 0 + 1) (by omega)
  have hj2 := Int.emod_lt_of_pos j0 (b := 4 - 0 + 1) (by omega)
  obtain ⟨j, ej⟩ : ∃ j, 0 + j0 % (4 - 0 + 1) = j := ⟨_, rfl⟩
  have EJ : Hid (0 + j0 % (4 - 0 + 1) = j) := ej
  have hjl : 0 ≤ j := by omega
  have hju : j ≤ 4 := by omega
  clear ej hj1 hj2
  have L0 : Hid (∀ wx : World, Lies 2 LnT.f (wx.alloc (.cells #[.int .i64 3, .int .i64 b, .int .i64 7, .int .i64 50] 25)) (.slice (some ⟨wx.heap.size, 0, none⟩) 2 2) [⟨3, b⟩, ⟨7, 50⟩]) := fun wx => lies_new LnT.len wx [⟨3, b⟩, ⟨7, 50⟩] 25 (by unfold maxLen; simp)
  have W0 : Hid (∀ o ∈ [⟨3, b, 0, 0, false⟩, ovS], o.Wf 1073741824) := ov_wf0 (by omega) hbu
  have W1 : Hid (∀ o ∈ [⟨3, 0, b - x, 0, true⟩, ovS], o.Wf 1073741824) := ov_wf1 (by omega) (by omega)
  have W2 : Hid (∀ o ∈ [⟨3, 0, b - x - k, 0, true⟩, ovS], o.Wf 1073741824) := ov_wf1 (by omega) (by omega)
  have Y1 : Hid (applyP [⟨3, b, 0, 0, false⟩, ovS] [⟨3, x, 0, 0, 0, 0, true⟩] = some ([⟨3, 0, b - x, 0, true⟩, ovS], ⟨x, 0, b - x, 0⟩)) := ov_yes1 hxl hxu hbu
  have Y2 : Hid (applyP [⟨3, 0, b - x, 0, true⟩, ovS] [⟨3, 0, 0, 0, k, 0, false⟩] = some ([⟨3, 0, b - x - k, 0, true⟩, ovS], ⟨0, 0, 0, k⟩)) := ov_yes2 hkl hku (by omega)
  go_enter Try.func6, Try.ntmps6
  go_upto_region 2 with (go_at_call_of 22 (b0); refine (within_any _ 1 _ (by omega) (by omega) (by omega) (by omega) _).mono ?_; rintro e wq ⟨rfl, hq⟩; have hq := hq.symm; subst hq; rw [(EB).out])
  go_upto_region 3 with (go_at_call 7; refine (new_any _ [⟨3, b⟩, ⟨7, 50⟩] _ (L0.out w) (by simp)).mono ?_; rintro e w1 ⟨g, rfl, hg, d1, hP⟩)
  have M0 : Hid (OvM w w1 g [⟨3, b, 0, 0, false⟩, ovS]) := ⟨below_then (below_alloc (Below.refl _ w) _) d1, Nat.le_trans (by simp) hg, hP⟩
  clear hg d1 hP L0
  go_upto_region 6 with (go_at_call_of 22 (x0); refine (within_any _ 0 _ (by omega) (by omega) (by omega) (by omega) _).mono ?_; rintro e wq ⟨rfl, hq⟩; have hq := hq.symm; subst hq; rw [(EX).out])
  go_upto_region 7 with (go_at_call 8; refine (apply_no (ov_no0 b) (M0.out.alloc _).pool (line_new ⟨7, 0, 0, 0, 1, 0, false⟩ w1) W0.out (by decide) (by simp)).mono ?_; rintro e w2 ⟨rfl, d2⟩; unfold AggP.v AggP.zero)
  refine wp_letter (fun wx => OvM w wx g [⟨3, b, 0, 0, false⟩, ovS]) (((M0.out.alloc _).then d2).alloc _) ?_
  clear M0 d2
  rintro V1 m1
  have M1 : Hid (OvM w V1 g [⟨3, b, 0, 0, false⟩, ovS]) := m1
  clear m1
  go_upto_region 10 with (go_at_call 8; refine (apply_yes Y1.out (M1.out.alloc _).pool (line_new ⟨3, x, 0, 0, 0, 0, true⟩ V1) W0.out (by decide) (by simp)).mono ?_; rintro e w3 ⟨rfl, r3, p3⟩; unfold AggP.v)
  refine wp_letter (fun wx => ∃ h, w3.heap.size = h ∧ Blk wx h 27 (AggP.f ⟨x, 0, b - x, 0⟩) ∧ OvM w wx g [⟨3, 0, b - x, 0, true⟩, ovS]) ⟨_, rfl, Blk.fresh _ _ _, ((M1.out.alloc _).on r3 p3).alloc _⟩ ?_
  clear M1 r3 p3
  rintro V2 ⟨h, eh, bh, m2⟩
  rw [eh]
  clear eh
  have y2 := bh.cell 2 _ rfl
  have M2 : Hid (OvM w V2 g [⟨3, 0, b - x, 0, true⟩, ovS]) := m2
  clear m2 bh
  go_upto_region 12 with (first
    | ((go_at_call 10; refine (lost_any g _ _ 1073741824 M2.out.pool W1.out (by decide) (by simp)).mono ?_; rintro e w4 ⟨rfl, d4⟩; rw [(ov_sums1 (b - x)).2]; have M3 : Hid (OvM w w4 g [⟨3, 0, b - x, 0, true⟩, ovS]) := M2.out.then d4))
    | ((go_at_call 9; refine (balance_any g _ _ 1073741824 M3.out.pool W1.out (by decide) (by simp)).mono ?_; rintro e w5 ⟨rfl, d5⟩; rw [(ov_sums1 (b - x)).1])))
  have M4 : Hid (OvM w w5 g [⟨3, 0, b - x, 0, true⟩, ovS]) := M3.out.then d5
  clear M2 M3 d4 d5 y2
  go_upto_region 13 with (go_at_call_of 22 (k0); refine (within_any _ 0 _ (by omega) (by omega) (by omega) (by omega) _).mono ?_; rintro e wq ⟨rfl, hq⟩; have hq := hq.symm; subst hq; rw [(EK).out])
  go_upto_region 14 with (go_at_call 8; refine (apply_yes Y2.out (M4.out.alloc _).pool (line_new ⟨3, 0, 0, 0, k, 0, false⟩ w5) W1.out (by decide) (by simp)).mono ?_; rintro e w6 ⟨rfl, r6, p6⟩; unfold AggP.v)
  refine wp_letter (fun wx => ∃ h, w6.heap.size = h ∧ Blk wx h 27 (AggP.f ⟨0, 0, 0, k⟩) ∧ OvM w wx g [⟨3, 0, b - x - k, 0, true⟩, ovS]) ⟨_, rfl, Blk.fresh _ _ _, ((M4.out.alloc _).on r6 p6).alloc _⟩ ?_
  clear M4 r6 p6
  rintro V3 ⟨h3, eh, bh, m3⟩
  rw [eh]
  clear eh
  have y3 := bh.cell 3 _ rfl
  have M5 : Hid (OvM w V3 g [⟨3, 0, b - x - k, 0, true⟩, ovS]) := m3
  clear m3 bh
  go_upto_region 16 with (((go_at_call 10; refine (lost_any g _ _ 1073741824 M5.out.pool W2.out (by decide) (by simp)).mono ?_; rintro e w7 ⟨rfl, d7⟩; rw [(ov_sums1 (b - x - k)).2])))
  have M6 : Hid (OvM w w7 g [⟨3, 0, b - x - k, 0, true⟩, ovS]) := M5.out.then d7
  clear M5 d7 y3
  go_upto_region 18 with (go_at_call_of 22 (n0); refine (within_any _ 0 _ (by omega) (by omega) (by omega) (by omega) _).mono ?_; rintro e wq ⟨rfl, hq⟩; have hq := hq.symm; subst hq; rw [(EN).out])
  refine wp_letter (fun wx => ∃ h, w7.heap.size = h ∧ Blk wx h 32 (LineT.f ⟨3, 0, 0, 0, b - x - k + (1 + n), 0, false⟩) ∧ OvM w wx g [⟨3, 0, b - x - k, 0, true⟩, ovS] ∧ PoolX wx g [⟨3, 0, b - x - k, 0, true⟩, ovS] h ∧ w.heap.size ≤ h) ⟨_, rfl, Blk.fresh _ _ _, M6.out.alloc _, (M6.out.pool.x (by simp) (Nat.le_refl _)).below (below_alloc (Below.refl _ _) _), M6.out.below.size⟩ ?_
  clear M6
  rintro V4 ⟨h4, eh, bh, m4, px, hw4⟩
  rw [eh]
  clear eh
  go_upto_block 0 with (go_at_call_of 22 (j0); refine (within_any _ 0 _ (by omega) (by omega) (by omega) (by omega) _).mono ?_; rintro e wq ⟨rfl, hq⟩; have hq := hq.symm; subst hq; rw [(EJ).out])
  go_cut [22] (fun s wx => ∃ l : LineT, l.id = 3 ∧ (l.pr ≠ 0 ∨ l.it ≠ 0 ∨ l.df = true ∨ l.lt ≠ 0 ∨ b - x - k < l.rc) ∧ s = .pointer (some ⟨h4, 0, none⟩) ∧ Blk wx h4 32 l.f ∧ OvM w wx g [⟨3, 0, b - x - k, 0, true⟩, ovS])
  case first =>
    have c0 := bh.cell 0 _ rfl; have c1 := bh.cell 1 _ rfl; have c2 := bh.cell 2 _ rfl; have c3 := bh.cell 3 _ rfl; have c4 := bh.cell 4 _ rfl; have c5 := bh.cell 5 _ rfl; have c6 := bh.cell 6 _ rfl
    have f0 := bh.frozen 0; have f1 := bh.frozen 1; have f2 := bh.frozen 2; have f3 := bh.frozen 3; have f4 := bh.frozen 4; have f5 := bh.frozen 5; have f6 := bh.frozen 6
    rcases (show j = 0 ∨ j = 1 ∨ j = 2 ∨ j = 3 ∨ j = 4 by omega) with hj | hj | hj | hj | hj
    · subst hj
      go_wp2
      go_meet
      case rel => exact ⟨⟨3, 1 + n, 0, 0, 0, 0, false⟩, rfl, Or.inl (by simp only; omega), rfl, bh.put7 _ _ _ _ _ _ _, m4.put7 px hw4 _ _ _ _ _ _ _⟩
    · subst hj
      go_wp2
      go_meet
      case rel => exact ⟨⟨3, 0, 0, 1 + n, 0, 0, false⟩, rfl, Or.inr (Or.inl (by simp only; omega)), rfl, bh.put7 _ _ _ _ _ _ _, m4.put7 px hw4 _ _ _ _ _ _ _⟩
    · subst hj
      go_wp2
      go_meet
      case rel => exact ⟨⟨3, 0, 0, 0, 0, 0, true⟩, rfl, Or.inr (Or.inr (Or.inl rfl)), rfl, bh.put7 _ _ _ _ _ _ _, m4.put7 px hw4 _ _ _ _ _ _ _⟩
    · subst hj
      go_wp2
      go_meet
      case rel => exact ⟨⟨3, 0, 0, 0, 0, 1 + (1 + n) % 12, false⟩, rfl, Or.inr (Or.inr (Or.inr (Or.inl (by simp only; omega)))), rfl, bh.put7 _ _ _ _ _ _ _, m4.put7 px hw4 _ _ _ _ _ _ _⟩
    · subst hj
      go_wp2
      go_meet
      case rel => exact ⟨⟨3, 0, 0, 0, b - x - k + (1 + n), 0, false⟩, rfl, Or.inr (Or.inr (Or.inr (Or.inr (by simp only; omega)))), rfl, bh, m4⟩
  case rest =>
    obtain ⟨l, hl1, hl2, rfl, bl, m5⟩ := hcut
    have NO : Hid (applyP [⟨3, 0, b - x - k, 0, true⟩, ovS] [l] = none) := ov_no3 hl1 hl2
    have M5 : Hid (OvM w wc g [⟨3, 0, b - x - k, 0, true⟩, ovS]) := m5
    have c0 := bl.cell 0 _ rfl; have c1 := bl.cell 1 _ rfl; have c2 := bl.cell 2 _ rfl; have c3 := bl.cell 3 _ rfl; have c4 := bl.cell 4 _ rfl; have c5 := bl.cell 5 _ rfl; have c6 := bl.cell 6 _ rfl
    clear hl1 hl2 bl m5 bh m4 px
    go_upto_region 28 with (go_at_call 8; refine (apply_no NO.out (M5.out.alloc _).pool (line_new l wc) W2.out (by decide) (by simp)).mono ?_; rintro e w8 ⟨rfl, d8⟩; unfold AggP.v AggP.zero)
    have M8 : Hid (OvM w (w8.alloc (.cells #[.int .i64 0, .int .i64 0, .int .i64 0, .int .i64 0] 27)) g [⟨3, 0, b - x - k, 0, true⟩, ovS]) := ((M5.out.alloc _).then d8).alloc _
    clear M5 d8 c0 c1 c2 c3 c4 c5 c6
    have FI : Hid (findP 3 [⟨3, 0, b - x - k, 0, true⟩, ovS] = .tuple #[.agg #[.int .i64 3, .int .i64 0, .int .i64 (b - x - k), .int .i64 0, .bool true], .bool true]) := rfl
    go_upto_region 29 with (go_at_call 21; refine (find_any g _ 3 _ M8.out.pool (by simp)).mono ?_; rintro e w9 ⟨rfl, d9⟩; rw [FI.out])
    refine wp_letter (fun wx => ∃ h, w9.heap.size = h ∧ Blk wx h 58 (LoanP.f ⟨3, 0, b - x - k, 0, true⟩) ∧ Below w.heap.size w wx) ⟨_, rfl, Blk.fresh _ _ _, (M8.out.then d9).below.alloc (M8.out.then d9).below.size _⟩ ?_
    clear M8 d9
    rintro V5 ⟨h5, eh, bh, hV⟩
    rw [eh]
    have c0 := bh.cell 0 _ rfl; have c1 := bh.cell 1 _ rfl; have c2 := bh.cell 2 _ rfl; have c3 := bh.cell 3 _ rfl; have c4 := bh.cell 4 _ rfl
    go_wp2_with ((go_at_call 3; refine (poolRuns_any _).mono ?_; rintro e wr ⟨rfl, dr⟩))
    go_ret
    exact ⟨rfl, below_then hV dr⟩
theorem poolOver_law (v0 v1 v2 v3 v4 : Value) (w : World) (w0 : Arg w (.int .i64) v0) (w1 : Arg w (.int .i64) v1) (w2 : Arg w (.int .i64) v2) (w3 : Arg w (.int .i64) v3) (w4 : Arg w (.int .i64) v4) :
    Calls Try.prog 6 #[v0, v1, v2, v3, v4] w fun e w' => e = .returned (.bool true) ∧ Below w.heap.size w w' := by
  obtain ⟨n0, rfl, _⟩ := arg_int w0
  obtain ⟨n1, rfl, _⟩ := arg_int w1
  obtain ⟨n2, rfl, _⟩ := arg_int w2
  obtain ⟨n3, rfl, _⟩ := arg_int w3
  obtain ⟨n4, rfl, _⟩ := arg_int w4
  exact poolOver_any n0 n1 n2 n3 n4 w
end Go.Proofs.Ytoijgognbfifbaa
