/-
  Package cascadebook at deals' lists: the walks of Same; cascadekeep.Deals.
-/
import Derived.Test.YtamdmicdieeolaaDealCopy
namespace Go.Proofs.Ytamdmicdieeolaa
open Go.RowKit

/-- Two lists that are the same. -/
theorem same_ln (v v' : Value) (es : List LnT) (w : World) (h : Lies 2 LnT.f w v es) (h' : Lies 2 LnT.f w v' es) :
    Calls Try.prog 35 #[v, v'] w fun e w' => e = .returned (.bool true) ∧ Below w.heap.size w w' := by
  obtain ⟨a, cap, rfl, _, _, _, _⟩ := id h
  obtain ⟨a', cap', rfl, _, _, _, _⟩ := id h'
  have hl := h.len
  unfold maxLen at hl
  obtain ⟨n, hn⟩ : ∃ n, es.length = n := ⟨_, rfl⟩
  rw [hn] at h h' ⊢
  have H : Hid (Lies 2 LnT.f w (.slice a n cap) es ∧ Lies 2 LnT.f w (.slice a' n cap') es ∧ es.length = n) := ⟨h, h', hn⟩
  have hm : n ≤ 9223372036854775807 := by omega
  clear h h' hl hn
  go_enter Try.func35, Try.ntmps35
  go_wp2
  go_loopw [5] (fun i wr => ∃ k : Nat, k ≤ n ∧ i = .int .i64 k ∧ ∃ m, wr = w.drewN m) (fun i _ => n - (intOf i).toNat)
  case atStart => exact ⟨0, Nat.zero_le _, rfl, 0, rfl⟩
  case round =>
    obtain ⟨k, hk, rfl, m, rfl⟩ := hrel
    by_cases hlt : k < n
    · obtain ⟨b, off, rfl, hc⟩ := H.out.1.place (by omega)
      obtain ⟨b', off', rfl, hc'⟩ := H.out.2.1.place (by omega)
      have hx : es[k]? = some (es[k]'(by have := H.out.2.2; omega)) := List.getElem?_eq_getElem (by have := H.out.2.2; omega)
      have c0 := hc k _ hx 0 _ rfl; have c1 := hc k _ hx 1 _ rfl
      have d0 := hc' k _ hx 0 _ rfl; have d1 := hc' k _ hx 1 _ rfl
      rw [Nat.add_zero] at c0 d0
      generalize (es[k]'(by have := H.out.2.2; omega)) = x at c0 c1 d0 d1
      obtain ⟨x0, x1⟩ := x
      simp only at c0 c1 d0 d1
      have k0 : (0 : Int) ≤ (k : Int) := by omega
      have k1 : (k : Int) < (n : Int) := by omega
      clear hc hc' hx
      go_wp2
      go_quiet (fail)
      go_wp2
      go_roundw
      case rel => exact ⟨k + 1, by omega, by go_num, _, rfl⟩
      case measure => simp [intOf]; omega
    · go_wp2
      go_ret
      exact ⟨rfl, below_draws (Below.refl _ _) _⟩
/-- Two lists that are the same. -/
theorem same_tr (v v' : Value) (es : List TrT) (w : World) (h : Lies 3 TrT.f w v es) (h' : Lies 3 TrT.f w v' es) :
    Calls Try.prog 36 #[v, v'] w fun e w' => e = .returned (.bool true) ∧ Below w.heap.size w w' := by
  obtain ⟨a, cap, rfl, _, _, _, _⟩ := id h
  obtain ⟨a', cap', rfl, _, _, _, _⟩ := id h'
  have hl := h.len
  unfold maxLen at hl
  obtain ⟨n, hn⟩ : ∃ n, es.length = n := ⟨_, rfl⟩
  rw [hn] at h h' ⊢
  have H : Hid (Lies 3 TrT.f w (.slice a n cap) es ∧ Lies 3 TrT.f w (.slice a' n cap') es ∧ es.length = n) := ⟨h, h', hn⟩
  have hm : n ≤ 9223372036854775807 := by omega
  clear h h' hl hn
  go_enter Try.func36, Try.ntmps36
  go_wp2
  go_loopw [5] (fun i wr => ∃ k : Nat, k ≤ n ∧ i = .int .i64 k ∧ ∃ m, wr = w.drewN m) (fun i _ => n - (intOf i).toNat)
  case atStart => exact ⟨0, Nat.zero_le _, rfl, 0, rfl⟩
  case round =>
    obtain ⟨k, hk, rfl, m, rfl⟩ := hrel
    by_cases hlt : k < n
    · obtain ⟨b, off, rfl, hc⟩ := H.out.1.place (by omega)
      obtain ⟨b', off', rfl, hc'⟩ := H.out.2.1.place (by omega)
      have hx : es[k]? = some (es[k]'(by have := H.out.2.2; omega)) := List.getElem?_eq_getElem (by have := H.out.2.2; omega)
      have c0 := hc k _ hx 0 _ rfl; have c1 := hc k _ hx 1 _ rfl; have c2 := hc k _ hx 2 _ rfl
      have d0 := hc' k _ hx 0 _ rfl; have d1 := hc' k _ hx 1 _ rfl; have d2 := hc' k _ hx 2 _ rfl
      rw [Nat.add_zero] at c0 d0
      generalize (es[k]'(by have := H.out.2.2; omega)) = x at c0 c1 c2 d0 d1 d2
      obtain ⟨x0, x1, x2⟩ := x
      simp only at c0 c1 c2 d0 d1 d2
      have k0 : (0 : Int) ≤ (k : Int) := by omega
      have k1 : (k : Int) < (n : Int) := by omega
      clear hc hc' hx
      go_wp2
      go_quiet (fail)
      go_wp2
      go_roundw
      case rel => exact ⟨k + 1, by omega, by go_num, _, rfl⟩
      case measure => simp [intOf]; omega
    · go_wp2
      go_ret
      exact ⟨rfl, below_draws (Below.refl _ _) _⟩
/-- Two lists that are the same. -/
theorem same_st (v v' : Value) (es : List StT) (w : World) (h : Lies 2 StT.f w v es) (h' : Lies 2 StT.f w v' es) :
    Calls Try.prog 34 #[v, v'] w fun e w' => e = .returned (.bool true) ∧ Below w.heap.size w w' := by
  obtain ⟨a, cap, rfl, _, _, _, _⟩ := id h
  obtain ⟨a', cap', rfl, _, _, _, _⟩ := id h'
  have hl := h.len
  unfold maxLen at hl
  obtain ⟨n, hn⟩ : ∃ n, es.length = n := ⟨_, rfl⟩
  rw [hn] at h h' ⊢
  have H : Hid (Lies 2 StT.f w (.slice a n cap) es ∧ Lies 2 StT.f w (.slice a' n cap') es ∧ es.length = n) := ⟨h, h', hn⟩
  have hm : n ≤ 9223372036854775807 := by omega
  clear h h' hl hn
  go_enter Try.func34, Try.ntmps34
  go_wp2
  go_loopw [5] (fun i wr => ∃ k : Nat, k ≤ n ∧ i = .int .i64 k ∧ ∃ m, wr = w.drewN m) (fun i _ => n - (intOf i).toNat)
  case atStart => exact ⟨0, Nat.zero_le _, rfl, 0, rfl⟩
  case round =>
    obtain ⟨k, hk, rfl, m, rfl⟩ := hrel
    by_cases hlt : k < n
    · obtain ⟨b, off, rfl, hc⟩ := H.out.1.place (by omega)
      obtain ⟨b', off', rfl, hc'⟩ := H.out.2.1.place (by omega)
      have hx : es[k]? = some (es[k]'(by have := H.out.2.2; omega)) := List.getElem?_eq_getElem (by have := H.out.2.2; omega)
      have c0 := hc k _ hx 0 _ rfl; have c1 := hc k _ hx 1 _ rfl
      have d0 := hc' k _ hx 0 _ rfl; have d1 := hc' k _ hx 1 _ rfl
      rw [Nat.add_zero] at c0 d0
      generalize (es[k]'(by have := H.out.2.2; omega)) = x at c0 c1 d0 d1
      obtain ⟨x0, x1⟩ := x
      simp only at c0 c1 d0 d1
      have k0 : (0 : Int) ≤ (k : Int) := by omega
      have k1 : (k : Int) < (n : Int) := by omega
      clear hc hc' hx
      go_wp2
      go_quiet (fail)
      go_wp2
      go_roundw
      case rel => exact ⟨k + 1, by omega, by go_num, _, rfl⟩
      case measure => simp [intOf]; omega
    · go_wp2
      go_ret
      exact ⟨rfl, below_draws (Below.refl _ _) _⟩
end Go.Proofs.Ytamdmicdieeolaa
