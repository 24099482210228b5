/-
  Deals of numbers, the plain part: what is laid so, may be.
-/
import Derived.Test.YtamdmicdieeolaaDealLoans
namespace Go.Proofs.Ytamdmicdieeolaa
open Go.RowKit

/-- Within, its outcome a letter. -/
theorem win_at {n lo hi X : Int} (l0 : -4611686018427387904 ≤ lo) (h : lo ≤ hi) (h1 : hi ≤ 4611686018427387903) (d : hi - lo ≤ 4611686018427387903) (e : lo + n % (hi - lo + 1) = X) (w : World) :
    Calls Try.prog 15 #[.int .i64 n, .int .i64 lo, .int .i64 hi] w fun e w' => e = .returned (.int .i64 X) ∧ w' = w := by
  rw [← e]
  exact within_any n lo hi l0 h h1 d w
theorem win_in (n lo hi : Int) (h : lo ≤ hi) : lo ≤ lo + n % (hi - lo + 1) ∧ lo + n % (hi - lo + 1) ≤ hi := by
  have h1 := Int.emod_nonneg n (b := hi - lo + 1) (by omega)
  have h2 := Int.emod_lt_of_pos n (b := hi - lo + 1) (by omega)
  omega
theorem NumT.ok_of {t : NumT} (h0 : 1 ≤ t.yr ∧ t.yr ≤ 9000) (h1 : 1 ≤ t.mo ∧ t.mo ≤ 12) (h2 : 0 ≤ t.ba ∧ t.ba ≤ 2) (h3 : 0 ≤ t.fe ∧ t.fe ≤ 5000) (h4 : 0 ≤ t.re ∧ t.re ≤ 1099511627776) (h5 : 0 ≤ t.ta ∧ t.ta ≤ 10000) (h6 : 0 ≤ t.ad ∧ t.ad ≤ 1099511627776) (h7 : 0 ≤ t.cu ∧ t.cu ≤ 600)
    (g0 : 0 ≤ t.t0 ∧ t.t0 ≤ 100000) (g1 : 0 ≤ t.t1 ∧ t.t1 ≤ 100000) (g2 : 0 ≤ t.t2 ∧ t.t2 ≤ 100000) (g3 : 0 ≤ t.t3 ∧ t.t3 ≤ 100000) (g4 : 0 ≤ t.t4 ∧ t.t4 ≤ 100000) : t.ok = true := by
  simp [NumT.ok, inL, h0, h1, h2, h3, h4, h5, h6, h7, g0, g1, g2, g3, g4]
theorem stepsFrom_snoc : ∀ (xs p : List StT) (x : StT), stepsFrom p (xs ++ [x]) = (stepsFrom p xs && (x.ok && !((p ++ xs).any fun y => x.eq y)))
  | [], p, x => by simp [stepsFrom]
  | y :: r, p, x => by
    rw [List.cons_append, stepsFrom, stepsFrom, stepsFrom_snoc r (p ++ [y]) x]
    simp only [Bool.and_assoc, List.append_assoc, List.cons_append, List.nil_append]
/-- A step of numbers may be. -/
theorem st_made {kd rk : Int} (h0 : 1 ≤ kd) (h1 : kd ≤ 7) (h3 : kd = 3 → 0 ≤ rk ∧ rk ≤ 3) (hn : kd ≠ 3 → rk = 0) : StT.ok ⟨kd, rk⟩ = true := by
  unfold StT.ok
  simp only
  by_cases h : kd = 3
  · rw [if_pos h]
    have := h3 h
    simp [rankP, inL]
    omega
  · rw [if_neg h, hn h]
    simp [inL]
    omega
/-- What stands where there is nothing else. -/
def sixS : List StT := [⟨1, 0⟩, ⟨3, 0⟩, ⟨3, 1⟩, ⟨4, 0⟩, ⟨2, 0⟩, ⟨6, 0⟩]
theorem sixS_ok : stepsP sixS = true := by decide
/-- Steps made so far, of numbers. -/
structure StepsK (k : Nat) (xs : List StT) : Prop where
  len : xs.length ≤ k
  ok : stepsFrom [] xs = true
theorem StepsK.next {k : Nat} {xs : List StT} (h : StepsK k xs) {x : StT} (hx : x.ok = true) (hn : (xs.any fun y => y.eq x) = false) : StepsK (k + 1) (xs ++ [x]) := by
  refine ⟨by have := h.len; simp; omega, ?_⟩
  rw [stepsFrom_snoc, h.ok, hx, List.nil_append]
  have e : (xs.any fun y => x.eq y) = (xs.any fun y => y.eq x) := by
    congr 1
    funext y
    unfold StT.eq
    exact decide_eq_decide.2 ⟨fun h => ⟨h.1.symm, h.2.symm⟩, fun h => ⟨h.1.symm, h.2.symm⟩⟩
  rw [e, hn]
  rfl
theorem StepsK.skip {k : Nat} {xs : List StT} (h : StepsK k xs) : StepsK (k + 1) xs := ⟨by have := h.len; omega, h.ok⟩
theorem StepsK.fin {k : Nat} {xs : List StT} (h : StepsK k xs) (hk : k ≤ 12) (hn : xs.length ≠ 0) : stepsP xs = true := by
  unfold stepsP
  rw [h.ok, inL_one, Bool.and_true]
  have := h.len
  simp
  omega
/-- Notes made so far, of a pool of P. -/
structure NotesK (k : Nat) (P : Int) (xs : List TrT) : Prop where
  len : xs.length = k
  ok : ∀ x ∈ xs, x.ok = true
  og : ∀ x ∈ xs, 1 ≤ x.og ∧ x.og ≤ 1 + P / 6
theorem NotesK.next {k : Nat} {P : Int} {xs : List TrT} (h : NotesK k P xs) {x : TrT} (h0 : 0 ≤ x.rk ∧ x.rk ≤ 3) (h1 : 1 ≤ x.og ∧ x.og ≤ 1 + P / 6) (h2 : 0 ≤ x.rt ∧ x.rt ≤ 1200) : NotesK (k + 1) P (xs ++ [x]) := by
  refine ⟨by simp [h.len], fun y hy => ?_, fun y hy => ?_⟩
  · rcases List.mem_append.1 hy with hy | hy
    · exact h.ok y hy
    · simp at hy
      subst hy
      simp [TrT.ok, rankP, inL]
      omega
  · rcases List.mem_append.1 hy with hy | hy
    · exact h.og y hy
    · simp at hy
      subst hy
      exact h1
/-- The loans, the last among them. -/
def loans99 (xs : List LnT) : List LnT := xs ++ [⟨99, 50000⟩]
theorem loans99_ok {k : Nat} {xs : List LnT} (h : LoansK k xs) (hk : k ≤ 10) : loansP (loans99 xs) = true := by
  unfold loansP loans99
  rw [idsFrom_snoc xs 0 ⟨99, 50000⟩ h.rises (by decide) (fun y hy => by have := h.ids y hy; show y.id < 99; omega), inL_one]
  have := h.len
  simp
  omega
theorem loans99_bal {k : Nat} {xs : List LnT} (h : LoansK k xs) : ∀ z ∈ (loans99 xs).map LnT.bal, 0 ≤ z ∧ z ≤ 100000 := by
  intro z hz
  obtain ⟨x, hx, rfl⟩ := List.mem_map.1 hz
  rcases List.mem_append.1 hx with hx | hx
  · exact h.bals x hx
  · simp at hx
    subst hx
    decide
theorem loans99_sum {k : Nat} {xs : List LnT} (h : LoansK k xs) (hk : k ≤ 10) : 50000 ≤ ((loans99 xs).map LnT.bal).sum ∧ ((loans99 xs).map LnT.bal).sum ≤ 1100000 := by
  have h1 := sum_range 100000 (by decide) (xs.map LnT.bal) (fun z hz => by obtain ⟨x, hx, rfl⟩ := List.mem_map.1 hz; exact h.bals x hx)
  rw [List.length_map, h.len] at h1
  have e : ((loans99 xs).map LnT.bal).sum = (xs.map LnT.bal).sum + 50000 := by simp [loans99]
  rw [e]
  omega
/-- A deal of numbers may be. -/
theorem made_ok {t : NumT} {k j : Nat} {xs : List LnT} {ys : List TrT} {s0 s1 s2 : List StT} (ht : t.ok = true) (hx : LoansK k xs) (hk : k ≤ 10) (hy : NotesK j ((loans99 xs).map LnT.bal).sum ys) (hj : 1 ≤ j ∧ j ≤ 5) (h0 : stepsP s0 = true) (h1 : stepsP s1 = true) (h2 : stepsP s2 = true) :
    DealT.ok ⟨t, loans99 xs, ys, s0, s1, s2⟩ = true := by
  have hs := loans99_sum hx hk
  have e1 : sumFrom ((loans99 xs).map LnT.bal) 0 = some ((loans99 xs).map LnT.bal).sum := by
    rw [sumFrom_ok _ 0 (fun z hz => (loans99_bal hx z hz).1) (by omega), Int.zero_add]
  obtain ⟨P, hP⟩ : ∃ P, ((loans99 xs).map LnT.bal).sum = P := ⟨_, rfl⟩
  rw [hP] at hs e1 hy
  have hq := sum_range (1 + P / 6) (by omega) (ys.map TrT.og) (fun z hz => by obtain ⟨x, hx, rfl⟩ := List.mem_map.1 hz; have := hy.og x hx; omega)
  rw [List.length_map, hy.len] at hq
  have h5 : (j : Int) * (1 + P / 6) ≤ 5 * (1 + P / 6) := Int.mul_le_mul_of_nonneg_right (by omega) (by omega)
  have e2 : sumFrom (ys.map TrT.og) 0 = some (ys.map TrT.og).sum := by
    rw [sumFrom_ok _ 0 (fun z hz => by obtain ⟨x, hx, rfl⟩ := List.mem_map.1 hz; have := hy.og x hx; omega) (by omega), Int.zero_add]
  have hn : notesP ys = true := by
    unfold notesP
    rw [hy.len, inL_one, List.all_eq_true.2 hy.ok]
    simp
    omega
  unfold DealT.ok DealT.lent DealT.issued DealT.modes
  simp only [ht, loans99_ok hx hk, hn, e1, e2, h0, h1, h2, Option.isSome_some, Option.getD_some, Bool.and_self, Bool.true_and, Bool.and_true]
  rw [decide_eq_true (by omega), decide_eq_true (by omega)]
  rfl
end Go.Proofs.Ytamdmicdieeolaa
