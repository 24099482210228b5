/-
  Package cascadekeep: the walk of Loans: loans of numbers.
-/
import Derived.Test.YtoijgognbfifbaaPoolMore
import Derived.Test.YtoijgognbfifbaaKeep
namespace Go.Proofs.Ytoijgognbfifbaa
open Go.RowKit

theorem risesP_snoc : ∀ (p : List LoanP) (a : Int) (o : LoanP), risesP a p → a < o.id → (∀ y ∈ p, y.id < o.id) → risesP a (p ++ [o])
  | [], _, _, _, h, _ => ⟨h, trivial⟩
  | y :: r, _, o, h, _, hl => ⟨h.1, risesP_snoc r y.id o h.2 (hl y (by simp)) (fun z hz => hl z (by simp [hz]))⟩
/-- Loans that may be, ten at most, as they begin. -/
structure LoansOk (k : Nat) (xs : List LnT) : Prop where
  len : xs.length = k
  rises : risesP 0 (xs.map LnT.begin)
  ids : ∀ x ∈ xs, x.id < 2 * k + 1
  bals : ∀ x ∈ xs, 0 ≤ x.bal ∧ x.bal ≤ 100000
theorem LoansOk.next {k : Nat} {xs : List LnT} (h : LoansOk k xs) {b : Int} (b0 : 0 ≤ b) (b1 : b ≤ 100000) : LoansOk (k + 1) (xs ++ [⟨2 * k + 1, b⟩]) := by
  refine ⟨by simp [h.len], ?_, fun x hx => ?_, fun x hx => ?_⟩
  · rw [List.map_append]
    refine risesP_snoc _ _ _ h.rises (by show (0 : Int) < 2 * k + 1; omega) (fun y hy => ?_)
    obtain ⟨x, hx, rfl⟩ := List.mem_map.1 hy
    exact h.ids x hx
  · rcases List.mem_append.1 hx with hx | hx
    · have := h.ids x hx
      omega
    · simp at hx
      subst hx
      simp only
      omega
  · rcases List.mem_append.1 hx with hx | hx
    · exact h.bals x hx
    · simp at hx
      subst hx
      exact ⟨b0, b1⟩
theorem LoansOk.wf {k : Nat} {xs : List LnT} (h : LoansOk k xs) : ∀ o ∈ xs.map LnT.begin, o.Wf 100000 := by
  intro o ho
  obtain ⟨x, hx, rfl⟩ := List.mem_map.1 ho
  have := h.bals x hx
  constructor <;> simp [LnT.begin] <;> omega
theorem Try.info_ln : (Try.prog.info? 25).map (fun i => (i.zero, i.size, i.bytes)) = some (some (.agg #[.int .i64 0, .int .i64 0]), 2, 16) := by kernel_rfl

set_option maxHeartbeats 2000000 in
theorem loansK_any (v : Value) (zs : List Int) (w : World) (h : Lies 1 intF w v zs) :
    Calls Try.prog 11 #[v] w fun e w' => ∃ v' k xs, e = .returned v' ∧ k ≤ 10 ∧ LoansOk k xs ∧ w'.ownsRow w.heap.size 25 2 v' k (xs.flatMap LnT.f) ∧ Below w.heap.size w w' := by
  obtain ⟨i0, hi, hz0, hz1, hz2⟩ := info_parts Try.info_ln
  obtain ⟨a0, c0, rfl, _, _, _, _⟩ := id h
  obtain ⟨n0, hn0⟩ : ∃ n, zs.length = n := ⟨_, rfl⟩
  rw [hn0] at h ⊢
  have hl := h.len
  unfold maxLen at hl
  have hm : n0 ≤ 9223372036854775807 := by omega
  have L0 : Hid (Lies 1 intF w (.slice a0 n0 c0) zs) := h
  clear hl h hn0
  go_enter Try.func11, Try.ntmps11
  go_wp2
  go_loopw [3, 4] (fun v i wr => ∃ (k : Nat) (xs : List LnT), k ≤ 10 ∧ i = .int .i64 k ∧ LoansOk k xs ∧ wr.ownsRow w.heap.size 25 2 v k (xs.flatMap LnT.f) ∧ Below w.heap.size w wr) (fun _ i _ => 10 - (intOf i).toNat)
  case atStart => exact ⟨0, [], by omega, rfl, ⟨rfl, trivial, by simp, by simp⟩, World.ownsRow_nil _ _ _ _, Below.refl _ _⟩
  case round =>
  obtain ⟨k, xs, hk, rfl, hX, hO, hB⟩ := hrel
  have HX : Hid (LoansOk k xs) := hX
  have HO : Hid (wr.ownsRow w.heap.size 25 2 u3 k (xs.flatMap LnT.f)) := hO
  clear hX hO
  by_cases g1 : k < n0
  · by_cases g2 : k < 10
    · obtain ⟨b, off, rfl, cp⟩ := L0.out.num k g1
      replace cp := cell_keep hB cp
      generalize zs.getD k 0 = N0 at cp
      obtain ⟨A0, e0⟩ : ∃ J, N0 % (100000 + 1) = J := ⟨_, rfl⟩
      have h0 := win_bd N0 100000 (by omega)
      rw [e0] at h0
      have E0 : Hid (N0 % (100000 + 1) = A0) := e0
      clear e0
      have OW : Hid ((wr.alloc (.cells #[.int .i64 (2 * k + 1), .int .i64 A0] 25)).ownsRow w.heap.size 25 2 u3 k (xs.flatMap LnT.f)) := HO.out.alloc _
      have SR : Hid (Src (wr.alloc (.cells #[.int .i64 (2 * k + 1), .int .i64 A0] 25)) (.slice (some ⟨wr.heap.size, 0, none⟩) 1 1) 1 (LnT.f ⟨2 * k + 1, A0⟩)) := src_new wr _ 1 _
      have BS : Hid (w.heap.size ≤ (wr.alloc (.cells #[.int .i64 (2 * k + 1), .int .i64 A0] 25)).heap.size) := by
        have := hB.size
        show w.heap.size ≤ (wr.alloc (.cells #[.int .i64 (2 * k + 1), .int .i64 A0] 25)).heap.size
        simp
        omega
      go_wp2_with (first
        | ((go_at_call_of 22 (N0); refine (win_to (by omega) (by omega) (E0).out _).mono ?_; rintro e wq ⟨rfl, hq⟩; have hq := hq.symm; subst hq))
        | ((refine wpList_append_src rfl (.tmp 15) (.tmp 25) 38 rfl w.heap.size 25 i0 (.agg #[.int .i64 0, .int .i64 0]) 2 16 Try.underlying38 hi hz0 hz1 hz2 rfl (by decide) u3 k (xs.flatMap LnT.f) rfl OW.out (.slice (some ⟨wr.heap.size, 0, none⟩) 1 1) 1 (LnT.f ⟨2 * k + 1, A0⟩) rfl SR.out rfl (LnT.one _) (by unfold maxLen; omega) (by omega) BS.out ?_; intro v' w2 ow gr _)))
      go_roundw
      case rel => exact ⟨k + 1, xs ++ [⟨2 * k + 1, A0⟩], by omega, by go_num, HX.out.next h0.1 h0.2, own_more _ ow, below_grown (below_alloc hB _) gr (fun k h => (HO.out.lt k h).1)⟩
      case measure => simp [intOf]; omega
    · go_wp2
      go_ret
      exact ⟨_, k, xs, rfl, hk, HX.out, HO.out, hB⟩
  · go_wp2
    go_ret
    exact ⟨_, k, xs, rfl, hk, HX.out, HO.out, hB⟩
end Go.Proofs.Ytoijgognbfifbaa
