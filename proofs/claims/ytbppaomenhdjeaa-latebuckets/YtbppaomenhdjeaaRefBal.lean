/-
  The document's own pool (cascaderef9): the walk of Balance.
-/
import Derived.Test.YtbppaomenhdjeaaLoanS
import Derived.Test.YtbppaomenhdjeaaSumBy
namespace Go.Proofs.Ytbppaomenhdjeaa
open Go.RowKit

set_option maxHeartbeats 1000000 in
theorem refBalance_any (v : Value) (p : List LoanP) (w : World) (h : Lies 5 LoanP.f w v p) (hs : SumFits LoanP.bal p) :
    Calls Try.prog 15 #[v] w fun e w' => e = .returned (.int .i64 (sumBy LoanP.bal p)) ∧ Below w.heap.size w w' := by
  obtain ⟨S, hS⟩ : ∃ S, sumBy LoanP.bal p = S := ⟨_, rfl⟩
  rw [hS]
  obtain ⟨a, cap, rfl, _, hcm, _, _⟩ := id h
  obtain ⟨n, hn⟩ : ∃ n, p.length = n := ⟨_, rfl⟩
  have hlen := h.len
  rw [hn] at h hlen ⊢
  unfold maxLen at hlen
  have hm : n ≤ 9223372036854775807 := by omega
  have HL : Hid (Lies 5 LoanP.f w (.slice a n cap) p) := h
  have HN : Hid (p.length = n) := hn
  have HS : Hid (sumBy LoanP.bal p = S) := hS
  have HF : Hid (SumFits LoanP.bal p) := hs
  clear h hcm hlen hn hS hs
  go_enter Try.func15, Try.ntmps15
  go_wp2
  go_loopw [3, 8] (fun s i wr => ∃ k : Nat, k ≤ n ∧ i = .int .i64 k ∧ s = .int .i64 (sumBy LoanP.bal (p.take k)) ∧ Below w.heap.size w wr) (fun _ i _ => n - (intOf i).toNat)
  case atStart => exact ⟨0, Nat.zero_le _, rfl, rfl, Below.refl _ _⟩
  case round =>
  obtain ⟨k, hk, rfl, rfl, hB⟩ := hrel
  by_cases hlt : k < n
  · obtain ⟨b, off, x, rfl, hx, _, c0, c1, c2, c3, c4⟩ := HL.out.loan k hlt
    replace c0 := cell_keep hB c0
    replace c1 := cell_keep hB c1
    replace c2 := cell_keep hB c2
    replace c3 := cell_keep hB c3
    replace c4 := cell_keep hB c4
    have hs2 := HF.out (k + 1)
    have hs := HF.out k
    have hnx := sumBy_next LoanP.bal p k x hx
    generalize sumBy LoanP.bal (p.take k) = A at hs hnx
    rw [hnx] at hs2
    have HX : Hid (sumBy LoanP.bal (p.take (k + 1)) = A + x.bal) := hnx
    clear hx hnx
    go_wp2
    go_roundw
    case rel => exact ⟨k + 1, by omega, by go_num, by rw [HX.out], below_alloc hB _⟩
    case measure => simp [intOf]; omega
  · obtain rfl : k = n := by omega
    have e : p.take k = p := by rw [← HN.out]; exact List.take_length
    rw [e, HS.out]
    go_wp2
    go_ret
    exact ⟨rfl, hB⟩
end Go.Proofs.Ytbppaomenhdjeaa
