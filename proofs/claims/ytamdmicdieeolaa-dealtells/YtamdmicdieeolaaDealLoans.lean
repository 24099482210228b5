/-
  Package cascadekeep: the walk of Loans, for deals.
-/
import Derived.Test.YtamdmicdieeolaaDealMem
import Derived.Test.YtamdmicdieeolaaKeepPick
namespace Go.Proofs.Ytamdmicdieeolaa
open Go.RowKit

theorem idsFrom_snoc : ∀ (p : List LnT) (a : Int) (o : LnT), idsFrom a p = true → a < o.id → (∀ y ∈ p, y.id < o.id) → idsFrom a (p ++ [o]) = true
  | [], _, _, _, h, _ => by simp [idsFrom, h]
  | y :: r, a, o, h, _, hl => by
    rw [List.cons_append, idsFrom]
    simp only [idsFrom, Bool.and_eq_true, decide_eq_true_eq] at h
    rw [idsFrom_snoc r y.id o h.2 (hl y (by simp)) (fun z hz => hl z (by simp [hz]))]
    simp [h.1]
/-- Loans that may be, ten at most, as they begin. -/
structure LoansK (k : Nat) (xs : List LnT) : Prop where
  len : xs.length = k
  rises : idsFrom 0 xs = true
  ids : ∀ x ∈ xs, x.id < 2 * k + 1
  bals : ∀ x ∈ xs, 0 ≤ x.bal ∧ x.bal ≤ 100000
theorem LoansK.next {k : Nat} {xs : List LnT} (h : LoansK k xs) {b : Int} (b0 : 0 ≤ b) (b1 : b ≤ 100000) : LoansK (k + 1) (xs ++ [⟨2 * k + 1, b⟩]) := by
  refine ⟨by simp [h.len], idsFrom_snoc _ _ _ h.rises (by show (0 : Int) < 2 * k + 1; omega) (fun y hy => h.ids y hy), fun x hx => ?_, fun x hx => ?_⟩
  · rcases List.mem_append.1 hx with hx | hx
    · have := h.ids x hx
      omega
    · simp at hx
      subst hx
      simp only
      omega
  · rcases List.mem_append.1 hx with hx | hx
    · exact h.bals x hx
    · simp at hx
      subst hx
      exact ⟨b0, b1⟩
set_option maxHeartbeats 2000000 in
theorem dloans_any (v : Value) (zs : List Int) (w : World) (h : Lies 1 intF w v zs) :
    Calls Try.prog 28 #[v] w fun e w' => ∃ v' k xs, e = .returned v' ∧ k ≤ 10 ∧ LoansK k xs ∧ w'.ownsRow w.heap.size 46 2 v' k (xs.flatMap LnT.f) ∧ Below w.heap.size w w' := by
  obtain ⟨i0, hi, hz0, hz1, hz2⟩ := info_parts Try.info_ln
  obtain ⟨a0, c0, rfl, _, _, _, _⟩ := id h
  obtain ⟨n0, hn0⟩ : ∃ n, zs.length = n := ⟨_, rfl⟩
  rw [hn0] at h ⊢
  have hl := h.len
  unfold maxLen at hl
  have hm : n0 ≤ 9223372036854775807 := by omega
  have L0 : Hid (Lies 1 intF w (.slice a0 n0 c0) zs) := h
  clear hl h hn0
  go_enter Try.func28, Try.ntmps28
  go_wp2
  go_loopw [3, 4] (fun v i wr => ∃ (k : Nat) (xs : List LnT), k ≤ 10 ∧ i = .int .i64 k ∧ LoansK k xs ∧ wr.ownsRow w.heap.size 46 2 v k (xs.flatMap LnT.f) ∧ Below w.heap.size w wr) (fun _ i _ => 10 - (intOf i).toNat)
  case atStart => exact ⟨0, [], by omega, rfl, ⟨rfl, rfl, by simp, by simp⟩, World.ownsRow_nil _ _ _ _, Below.refl _ _⟩
  case round =>
  obtain ⟨k, xs, hk, rfl, hX, hO, hB⟩ := hrel
  have HX : Hid (LoansK k xs) := hX
  have HO : Hid (wr.ownsRow w.heap.size 46 2 u3 k (xs.flatMap LnT.f)) := hO
  clear hX hO
  by_cases g1 : k < n0
  · by_cases g2 : k < 10
    · obtain ⟨b, off, rfl, cp⟩ := L0.out.num k g1
      replace cp := cell_keep hB cp
      generalize zs.getD k 0 = N0 at cp
      obtain ⟨A0, e0⟩ : ∃ J, N0 % (100000 + 1) = J := ⟨_, rfl⟩
      have h0 := win_bd N0 100000 (by omega)
      rw [e0] at h0
      have E0 : Hid (N0 % (100000 + 1) = A0) := e0
      clear e0
      have OW : Hid ((wr.alloc (.cells #[.int .i64 (2 * k + 1), .int .i64 A0] 46)).ownsRow w.heap.size 46 2 u3 k (xs.flatMap LnT.f)) := HO.out.alloc _
      have SR : Hid (Src (wr.alloc (.cells #[.int .i64 (2 * k + 1), .int .i64 A0] 46)) (.slice (some ⟨wr.heap.size, 0, none⟩) 1 1) 1 (LnT.f ⟨2 * k + 1, A0⟩)) := src_new wr _ 1 _
      have BS : Hid (w.heap.size ≤ (wr.alloc (.cells #[.int .i64 (2 * k + 1), .int .i64 A0] 46)).heap.size) := by
        have := hB.size
        show w.heap.size ≤ (wr.alloc (.cells #[.int .i64 (2 * k + 1), .int .i64 A0] 46)).heap.size
        simp
        omega
      go_wp2_with (first
        | ((go_at_call_of 15 (N0); refine (win_to (by omega) (by omega) (E0).out _).mono ?_; rintro e wq ⟨rfl, hq⟩; have hq := hq.symm; subst hq))
        | ((refine wpList_append_src rfl (.tmp 15) (.tmp 25) 22 rfl w.heap.size 46 i0 (.agg #[.int .i64 0, .int .i64 0]) 2 16 Try.underlying22 hi hz0 hz1 hz2 rfl (by decide) u3 k (xs.flatMap LnT.f) rfl OW.out (.slice (some ⟨wr.heap.size, 0, none⟩) 1 1) 1 (LnT.f ⟨2 * k + 1, A0⟩) rfl SR.out rfl (LnT.one _) (by unfold maxLen; omega) (by omega) BS.out ?_; intro v' w2 ow gr _)))
      go_roundw
      case rel => exact ⟨k + 1, xs ++ [⟨2 * k + 1, A0⟩], by omega, by go_num, HX.out.next h0.1 h0.2, own_more _ ow, below_grown (below_alloc hB _) gr (fun k h => (HO.out.lt k h).1)⟩
      case measure => simp [intOf]; omega
    · go_wp2
      go_ret
      exact ⟨_, k, xs, rfl, hk, HX.out, HO.out, hB⟩
  · go_wp2
    go_ret
    exact ⟨_, k, xs, rfl, hk, HX.out, HO.out, hB⟩
end Go.Proofs.Ytamdmicdieeolaa
