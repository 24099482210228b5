/-
  Plain facts on what InOrder and Pro tell, for stage 4's laws.
-/
import Derived.Test.YtmchjfiaphkpdaaProP
import Derived.Test.YtmchjfiaphkpdaaPro3
import Derived.Test.YtmchjfiaphkpdaaClaims
namespace Go.Proofs.Ytmchjfiaphkpdaa
open Go.RowKit

/-- A row that came in, as far as it is the slice. -/
theorem Row.reads {w : World} {a : Option Addr} {len cap : Nat} {zs : List Int} (h : Row .i64 w a len cap zs) : Reads w (.slice a len cap) (zs.take len) := by
  obtain ⟨h1, h2, h3, hc⟩ := h.cells
  have hl : (zs.take len).length = len := by rw [List.length_take]; omega
  refine ⟨a, cap, by rw [hl], by omega, by omega, ?_⟩
  rw [hl]
  rcases Nat.eq_zero_or_pos len with e | e
  · left
    subst e
    simp
  · right
    obtain ⟨b, off, rfl, _⟩ := hc 0 e
    refine ⟨b, off, rfl, fun i hi => ?_⟩
    obtain ⟨b', off', e', hh⟩ := hc i hi
    simp only [Option.some.injEq, Addr.mk.injEq] at e'
    rw [e'.1, e'.2.1, hh]
    simp [hi]

theorem inOrd_take : ∀ (zs : List Int) (n : Int) (k : Nat), (inOrd n zs).take k = inOrd n (zs.take k)
  | [], n, k => by simp [inOrd]
  | c :: r, n, 0 => by simp [inOrd]
  | c :: r, n, k + 1 => by simp [inOrd, inOrd_take r]

theorem inOrd_at (n : Int) (zs : List Int) (k : Nat) (h : k < zs.length) : (inOrd n zs).getD k 0 = min (ordLeft n zs k) (max (zs.getD k 0) 0) := by
  have e := inOrd_next n zs k h
  rw [← inOrd_take, ← inOrd_take] at e
  have hl : k < (inOrd n zs).length := by rw [inOrd_length]; exact h
  rw [List.take_succ_eq_append_getElem hl] at e
  have := List.append_cancel_left e
  simp only [List.cons.injEq, and_true] at this
  simp [hl, this]

theorem sum_nonneg (l : List Int) (h : ∀ x ∈ l, 0 ≤ x) : 0 ≤ l.sum := mem_le_sum.sum_pos l h

theorem inOrd_sum : ∀ (L : List Int) (n : Int), 0 ≤ n → (∀ x ∈ L, 0 ≤ x) → (inOrd n L).sum = min n L.sum
  | [], n, h, _ => by simp [inOrd]; omega
  | c :: r, n, h, hp => by
    have h0 := hp c (by simp)
    have hr : ∀ x ∈ r, 0 ≤ x := fun x hx => hp x (by simp [hx])
    have hs := sum_nonneg r hr
    simp only [inOrd, List.sum_cons]
    rw [inOrd_sum r _ (by omega) hr]
    omega

theorem inOrd_nonneg : ∀ (L : List Int) (n : Int), 0 ≤ n → ∀ x ∈ inOrd n L, 0 ≤ x
  | [], n, _, x, hx => by simp [inOrd] at hx
  | c :: r, n, h, x, hx => by
    simp only [inOrd, List.mem_cons] at hx
    rcases hx with rfl | hx
    · omega
    · exact inOrd_nonneg r _ (by omega) x hx

/-- Has one of the first k less than it claims? -/
def shortB (xs cs : List Int) : Nat → Bool
  | 0 => false
  | k + 1 => shortB xs cs k || decide (xs.getD k 0 < cs.getD k 0)

theorem short_left (n : Int) (zs : List Int) (hn : 0 ≤ n) (hz : ∀ x ∈ zs, 0 ≤ x) : ∀ k, k ≤ zs.length → shortB (inOrd n zs) zs k = true → ordLeft n zs k = 0
  | 0, _, h => by simp [shortB] at h
  | k + 1, hk, h => by
    have hk' : k < zs.length := by omega
    have hr := ordLeft_range n zs hn k (by omega)
    have hx := inOrd_at n zs k hk'
    have hc : 0 ≤ zs.getD k 0 := hz _ (by simp [List.getD_eq_getElem?_getD, hk'])
    rw [ordLeft_next n zs k hk']
    simp only [shortB, Bool.or_eq_true, decide_eq_true_eq] at h
    rcases h with h | h
    · rw [short_left n zs hn hz k (by omega) h]
      omega
    · rw [hx] at h
      omega

/-- What ShareAll asks, place by place. -/
theorem order_place (n : Int) (zs : List Int) (hn : 0 ≤ n) (hz : ∀ x ∈ zs, 0 ≤ x) (k : Nat) (hk : k < zs.length) :
    0 ≤ (inOrd n zs).getD k 0 ∧ (inOrd n zs).getD k 0 ≤ zs.getD k 0 ∧ (shortB (inOrd n zs) zs k = true → (inOrd n zs).getD k 0 = 0) := by
  have hr := ordLeft_range n zs hn k (by omega)
  have hx := inOrd_at n zs k hk
  have hc : 0 ≤ zs.getD k 0 := hz _ (by simp [List.getD_eq_getElem?_getD, hk])
  rw [hx]
  refine ⟨by omega, by omega, fun h => ?_⟩
  rw [short_left n zs hn hz k (by omega) h]
  omega

theorem sumFrom_total (zs : List Int) (hz : ∀ x ∈ zs, 0 ≤ x) (ht : zs.sum ≤ 1152921504606846976) : sumFrom zs 0 = some zs.sum := by
  rw [sumFrom_ok zs 0 hz (by omega), Int.zero_add]

theorem replicate_sum (k : Nat) : (List.replicate k (0 : Int)).sum = 0 := by
  induction k with
  | zero => simp
  | succ k ih => rw [List.replicate_succ, List.sum_cons, ih]; omega

theorem pro_place (n : Int) (zs : List Int) (_hn : 0 ≤ n) (hz : ∀ x ∈ zs, 0 ≤ x) (ht : zs.sum ≤ 1152921504606846976) (k : Nat) (hk : k < zs.length) :
    0 ≤ (proL n zs).getD k 0 ∧ (proL n zs).getD k 0 ≤ zs.getD k 0 := by
  have hs := sumFrom_total zs hz ht
  have hm : zs.getD k 0 ∈ zs := by simp [List.getD_eq_getElem?_getD, hk]
  have hc : 0 ≤ zs.getD k 0 := hz _ hm
  have hle := mem_le_sum zs hz _ hm
  by_cases h0 : n ≤ 0
  · have : proL n zs = List.replicate zs.length 0 := by unfold proL; rw [hs]; simp only; rw [if_pos h0]
    rw [this]
    simp [hk]
    simpa [List.getD_eq_getElem?_getD, hk] using hc
  · by_cases h1 : zs.sum ≤ n
    · have : proL n zs = zs := by unfold proL; rw [hs]; simp only; rw [if_neg h0, if_pos h1]
      rw [this]
      omega
    · obtain ⟨b, e, hb, _⟩ := pro_share n zs.sum zs hs (by omega) (by omega) k hk
      obtain ⟨_, p0, p1⟩ := md_part n (zs.getD k 0) zs.sum (by omega) (by omega) hc hle ht
      rw [e]
      rcases hb with rfl | ⟨rfl, hr⟩
      · omega
      · refine ⟨by omega, ?_⟩
        rcases Int.lt_or_le (n * zs.getD k 0 / zs.sum) (zs.getD k 0) with g | g
        · omega
        · exfalso
          have e1 : n * zs.getD k 0 / zs.sum = zs.getD k 0 := by omega
          have e2 := Int.mul_ediv_add_emod (n * zs.getD k 0) zs.sum
          rw [e1] at e2
          have : n * zs.getD k 0 ≤ zs.sum * zs.getD k 0 := Int.mul_le_mul_of_nonneg_right (by omega) hc
          omega

theorem proL_sum (n : Int) (zs : List Int) (hn : 0 ≤ n) (hz : ∀ x ∈ zs, 0 ≤ x) (ht : zs.sum ≤ 1152921504606846976) : (proL n zs).sum = min n zs.sum := by
  have hs := sumFrom_total zs hz ht
  have h2 := sum_nonneg zs hz
  by_cases h0 : n ≤ 0
  · have : proL n zs = List.replicate zs.length 0 := by unfold proL; rw [hs]; simp only; rw [if_pos h0]
    rw [this, replicate_sum]
    omega
  · by_cases h1 : zs.sum ≤ n
    · have : proL n zs = zs := by unfold proL; rw [hs]; simp only; rw [if_neg h0, if_pos h1]
      rw [this]
      omega
    · rw [pro_sum n zs.sum zs hs (by omega) (by omega)]
      omega

theorem getD_mem_range (l : List Int) (P : Int → Prop) (h : ∀ k, k < l.length → P (l.getD k 0)) : ∀ x ∈ l, P x := by
  intro x hx
  obtain ⟨k, hk, rfl⟩ := List.mem_iff_getElem.mp hx
  have := h k hk
  simpa [List.getD_eq_getElem?_getD, hk] using this

theorem proL_nonneg (n : Int) (zs : List Int) (hn : 0 ≤ n) (hz : ∀ x ∈ zs, 0 ≤ x) (ht : zs.sum ≤ 1152921504606846976) : ∀ x ∈ proL n zs, 0 ≤ x :=
  getD_mem_range _ _ fun k hk => (pro_place n zs hn hz ht k (by rw [proL_length] at hk; exact hk)).1

/-- Numbers of a law: how much they are together. -/
theorem sum_small (L : List Int) (B : Int) (m : Nat) (hB : 0 ≤ B) (hl : L.length ≤ m) (hr : ∀ x ∈ L, 0 ≤ x ∧ x ≤ B) : 0 ≤ L.sum ∧ L.sum ≤ m * B := by
  obtain ⟨a, b⟩ := sum_range B hB L hr
  refine ⟨a, Int.le_trans b (Int.mul_le_mul_of_nonneg_right (by omega) hB)⟩

theorem leftL_order (a : Int) (L : List Int) (a0 : 0 ≤ a) (a1 : a ≤ 9223372036854775807) (hz : ∀ x ∈ L, 0 ≤ x) : leftL a (inOrd a L) = max (a - L.sum) 0 := by
  unfold leftL
  rw [inOrd_sum L a a0 hz]
  have := sum_nonneg L hz
  split <;> omega
theorem leftL_nil (a : Int) (a0 : 0 ≤ a) (a1 : a ≤ 9223372036854775807) : leftL a [] = a := by
  unfold leftL
  rw [List.sum_nil]
  split <;> omega

end Go.Proofs.Ytmchjfiaphkpdaa
