/-
  Package share, plain: what Pro tells: parts down to the cent, and the cents that are left to those that lost the most.
-/
import Derived.Test.YtmchjfiaphkpdaaShareP
namespace Go.Proofs.Ytmchjfiaphkpdaa

/-- Of two places with what was lost there: is x ahead of y? -/
def aheadB (x y : Int × Int) : Bool := decide (y.2 < x.2) || (decide (x.2 = y.2) && decide (x.1 < y.1))

theorem aheadB_iff (x y : Int × Int) : aheadB x y = true ↔ y.2 < x.2 ∨ (x.2 = y.2 ∧ x.1 < y.1) := by simp [aheadB]
theorem aheadB_no (x y : Int × Int) : aheadB x y = false ↔ ¬ (y.2 < x.2 ∨ (x.2 = y.2 ∧ x.1 < y.1)) := by rw [← aheadB_iff]; simp
theorem ahead_irr (x : Int × Int) : aheadB x x = false := by rw [aheadB_no]; omega
theorem ahead_asym (x y : Int × Int) (h : aheadB x y = true) : aheadB y x = false := by rw [aheadB_iff] at h; rw [aheadB_no]; omega
theorem ahead_trans (x y z : Int × Int) (h : aheadB x y = true) (k : aheadB y z = true) : aheadB x z = true := by rw [aheadB_iff] at *; omega
theorem ahead_one (x y : Int × Int) (h : aheadB x y = false) (k : aheadB y x = false) : x = y := by
  rw [aheadB_no] at *
  exact Prod.ext (by omega) (by omega)

/-- Each place with what was lost there. -/
def cutsOf (ls : List Int) : List (Int × Int) := (List.range ls.length).map fun (i : Nat) => ((i : Int), ls.getD i 0)
/-- How many are ahead of place i. -/
def rankOf (ls : List Int) (i : Nat) : Nat := (cutsOf ls).countP fun y => aheadB y ((i : Int), ls.getD i 0)
/-- A cent more to the first k. -/
def bump (A ls : List Int) (k : Nat) : List Int := (List.range A.length).map fun i => A.getD i 0 + if rankOf ls i < k then 1 else 0

theorem cutsOf_length (ls : List Int) : (cutsOf ls).length = ls.length := by simp [cutsOf]
theorem cutsOf_at (ls : List Int) (i : Nat) (h : i < ls.length) : (cutsOf ls)[i]? = some ((i : Int), ls.getD i 0) := by simp [cutsOf, h]
theorem cutsOf_mem (ls : List Int) (x : Int × Int) : x ∈ cutsOf ls ↔ ∃ i, i < ls.length ∧ x = ((i : Int), ls.getD i 0) := by
  simp only [cutsOf, List.mem_map, List.mem_range]
  exact ⟨fun ⟨i, h, e⟩ => ⟨i, h, e.symm⟩, fun ⟨i, h, e⟩ => ⟨i, h, e.symm⟩⟩
theorem cutsOf_snd (ls : List Int) : (cutsOf ls).map Prod.snd = ls := by
  apply List.ext_getElem
  · simp [cutsOf]
  · intro i h1 h2
    simp [cutsOf, h2]
theorem cutsOf_nodup (ls : List Int) : (cutsOf ls).Nodup := by
  unfold cutsOf
  rw [List.nodup_iff_pairwise_ne, List.pairwise_map]
  refine List.Pairwise.imp ?_ (List.nodup_iff_pairwise_ne.mp List.nodup_range)
  intro a b hab e
  simp only [Prod.mk.injEq] at e
  exact hab (by omega)

theorem bump_length (A ls : List Int) (k : Nat) : (bump A ls k).length = A.length := by simp [bump]
theorem bump_at (A ls : List Int) (k i : Nat) (h : i < A.length) : (bump A ls k).getD i 0 = A.getD i 0 + if rankOf ls i < k then 1 else 0 := by simp [bump, h]
theorem bump_zero (A ls : List Int) : bump A ls 0 = A := by
  apply List.ext_getElem
  · simp [bump]
  · intro i h1 h2
    simp [bump, h2]

/-- In a row in order as many are ahead of one as stand ahead of it. -/
theorem count_at {α : Type} (lt : α → α → Bool) (irr : ∀ x, lt x x = false) (asym : ∀ x y, lt x y = true → lt y x = false) :
    ∀ (L : List α), L.Pairwise (fun a b => lt a b = true) → ∀ (k : Nat) (x : α), L[k]? = some x → L.countP (fun y => lt y x) = k
  | [], _, k, x, h => by simp at h
  | a :: r, hp, 0, x, h => by
    simp only [List.getElem?_cons_zero, Option.some.injEq] at h
    subst h
    rw [List.pairwise_cons] at hp
    rw [List.countP_cons, irr]
    simp only [Bool.false_eq_true, if_false, Nat.add_zero]
    rw [List.countP_eq_zero]
    intro y hy
    rw [asym a y (hp.1 y hy)]
    simp
  | a :: r, hp, k + 1, x, h => by
    simp only [List.getElem?_cons_succ] at h
    rw [List.pairwise_cons] at hp
    rw [List.countP_cons, count_at lt irr asym r hp.2 k x h, hp.1 x (List.mem_of_getElem? h)]
    simp

/-- A row of the cuts in order. -/
structure InOrd (ls : List Int) (L : List (Int × Int)) : Prop where
  perm : L.Perm (cutsOf ls)
  pw : L.Pairwise (fun a b => aheadB a b = true)

theorem InOrd.length {ls : List Int} {L : List (Int × Int)} (h : InOrd ls L) : L.length = ls.length := by rw [h.perm.length_eq, cutsOf_length]

theorem InOrd.place {ls : List Int} {L : List (Int × Int)} (h : InOrd ls L) (k : Nat) (x : Int × Int) (hx : L[k]? = some x) : ∃ i : Nat, i < ls.length ∧ x = ((i : Int), ls.getD i 0) ∧ rankOf ls i = k := by
  have hm : x ∈ cutsOf ls := h.perm.mem_iff.mp (List.mem_of_getElem? hx)
  obtain ⟨i, hi, rfl⟩ := (cutsOf_mem ls x).mp hm
  refine ⟨i, hi, rfl, ?_⟩
  unfold rankOf
  rw [← h.perm.countP_eq]
  exact count_at aheadB ahead_irr ahead_asym L h.pw k _ hx

theorem InOrd.only {ls : List Int} {L : List (Int × Int)} (h : InOrd ls L) (i j : Nat) (hi : i < ls.length) (hj : j < ls.length) (e : rankOf ls i = rankOf ls j) : i = j := by
  have find : ∀ m, m < ls.length → L[rankOf ls m]? = some ((m : Int), ls.getD m 0) := by
    intro m hm
    have hmem : ((m : Int), ls.getD m 0) ∈ L := h.perm.mem_iff.mpr ((cutsOf_mem ls _).mpr ⟨m, hm, rfl⟩)
    obtain ⟨k, hk⟩ := List.mem_iff_getElem?.mp hmem
    obtain ⟨m', _, e1, e2⟩ := h.place k _ hk
    simp only [Prod.mk.injEq] at e1
    have : m = m' := by omega
    subst this
    rw [e2]
    exact hk
  have a := find i hi
  rw [e, find j hj] at a
  simp only [Option.some.injEq, Prod.mk.injEq] at a
  omega

theorem InOrd.next {ls A : List Int} {L : List (Int × Int)} (h : InOrd ls L) (hA : A.length = ls.length) (k i : Nat) (hi : i < ls.length) (e : rankOf ls i = k) :
    (bump A ls k).set i (A.getD i 0 + 1) = bump A ls (k + 1) ∧ (bump A ls k).getD i 0 = A.getD i 0 := by
  refine ⟨?_, by rw [bump_at _ _ _ _ (by omega), if_neg (by omega)]; omega⟩
  apply List.ext_getElem
  · simp [bump]
  · intro j h1 h2
    rw [List.getElem_set]
    have hj : j < ls.length := by simpa [bump, hA] using h2
    by_cases hij : i = j
    · subst hij
      simp only [if_true]
      simp [bump, e]
    · rw [if_neg hij]
      have : rankOf ls j ≠ k := fun c => hij (h.only i j hi hj (by omega))
      simp only [bump, List.getElem_map, List.getElem_range]
      congr 1
      by_cases g : rankOf ls j < k
      · rw [if_pos g, if_pos (by omega)]
      · rw [if_neg g, if_neg (by omega)]

theorem sum_set : ∀ (l : List Int) (i : Nat) (x : Int), i < l.length → (l.set i x).sum = l.sum - l.getD i 0 + x
  | [], i, _, h => by simp at h
  | a :: r, 0, x, _ => by simp; omega
  | a :: r, i + 1, x, h => by
    have := sum_set r i x (by simpa using h)
    simp only [List.set_cons_succ, List.sum_cons, this, List.getD_cons_succ]
    omega

/-- There is a row of the cuts in order. -/
theorem inOrd_exists (ls : List Int) : InOrd ls ((cutsOf ls).mergeSort fun x y => !aheadB y x) := by
  have hp := List.mergeSort_perm (cutsOf ls) (fun x y => !aheadB y x)
  refine ⟨hp, ?_⟩
  have hs := List.pairwise_mergeSort (le := fun x y : Int × Int => !aheadB y x)
    (fun a b c h1 h2 => by
      simp only [Bool.not_eq_true', aheadB_no] at *
      omega)
    (fun a b => by
      simp only [Bool.or_eq_true, Bool.not_eq_true', aheadB_no]
      omega) (cutsOf ls)
  have hn : ((cutsOf ls).mergeSort fun x y => !aheadB y x).Nodup := hp.nodup_iff.mpr (cutsOf_nodup ls)
  rw [List.nodup_iff_pairwise_ne] at hn
  refine (hs.and hn).imp ?_
  rintro a b ⟨h1, h2⟩
  simp only [Bool.not_eq_true'] at h1
  cases h3 : aheadB a b with
  | true => rfl
  | false => exact absurd (ahead_one a b h3 h1) h2

theorem bump_sum (A ls : List Int) (hA : A.length = ls.length) : ∀ k, k ≤ ls.length → (bump A ls k).sum = A.sum + k
  | 0, _ => by rw [bump_zero]; omega
  | k + 1, hk => by
    have hI := inOrd_exists ls
    have hl := hI.length
    obtain ⟨i, hi, _, e⟩ := hI.place k _ (List.getElem?_eq_getElem (show k < _ by omega))
    obtain ⟨e1, e2⟩ := hI.next hA k i hi e
    rw [← e1, sum_set _ _ _ (by rw [bump_length]; omega), e2, bump_sum A ls hA k (by omega)]
    omega

/-! What Pro tells, by parts of s. -/
def partL (n s : Int) (zs : List Int) : List Int := zs.map fun c => n * c / s
def lostL (n s : Int) (zs : List Int) : List Int := zs.map fun c => n * c % s
def leftP (n s : Int) (zs : List Int) : Int := n - (partL n s zs).sum

/-- Pro: of n to claims. -/
def proL (n : Int) (zs : List Int) : List Int :=
  match sumFrom zs 0 with
  | none => List.replicate zs.length 0
  | some s => if n ≤ 0 then List.replicate zs.length 0 else if s ≤ n then zs else bump (partL n s zs) (lostL n s zs) (leftP n s zs).toNat

theorem sumFrom_some : ∀ (l : List Int) (a s : Int), sumFrom l a = some s → 0 ≤ a → a ≤ 1152921504606846976 → s = a + l.sum ∧ (∀ x ∈ l, 0 ≤ x) ∧ s ≤ 1152921504606846976
  | [], a, s, h, _, h1 => by simp [sumFrom] at h; subst h; simp; exact h1
  | c :: r, a, s, h, h0, h1 => by
    simp only [sumFrom] at h
    split at h
    · simp at h
    · rename_i hc
      obtain ⟨e, f, g⟩ := sumFrom_some r (a + c) s h (by omega) (by omega)
      refine ⟨by simp only [List.sum_cons]; omega, ?_, g⟩
      intro x hx
      rcases List.mem_cons.mp hx with rfl | hx
      · omega
      · exact f x hx

theorem part_lost_sum (n s : Int) : ∀ zs : List Int, n * zs.sum = s * (partL n s zs).sum + (lostL n s zs).sum
  | [] => by simp [partL, lostL]
  | c :: r => by
    have ih := part_lost_sum n s r
    simp only [partL, lostL, List.map_cons, List.sum_cons] at *
    rw [Int.mul_add, ih, Int.mul_add]
    have := Int.mul_ediv_add_emod (n * c) s
    omega

theorem lost_bound (n s : Int) (hs : 0 < s) (zs : List Int) : ∀ q ∈ lostL n s zs, 0 ≤ q ∧ q < s := by
  intro q hq
  simp only [lostL, List.mem_map] at hq
  obtain ⟨c, _, rfl⟩ := hq
  exact ⟨Int.emod_nonneg _ (by omega), Int.emod_lt_of_pos _ hs⟩

theorem lost_sum_le (s : Int) (hs : 0 < s) : ∀ ls : List Int, (∀ q ∈ ls, 0 ≤ q ∧ q < s) → 0 ≤ ls.sum ∧ ls.sum ≤ (ls.countP (fun q => decide (0 < q)) : Nat) * (s - 1)
  | [], _ => by simp
  | q :: r, h => by
    have ih := lost_sum_le s hs r (fun x hx => h x (by simp [hx]))
    have hq := h q (by simp)
    rw [List.countP_cons, List.sum_cons]
    by_cases g : 0 < q
    · simp only [g, decide_true, if_true]
      rw [show ((List.countP (fun q => decide (0 < q)) r + 1 : Nat) : Int) * (s - 1) = (List.countP (fun q => decide (0 < q)) r : Nat) * (s - 1) + (s - 1) by
        rw [Int.natCast_add, Int.add_mul]; omega]
      omega
    · simp only [g, decide_false, Bool.false_eq_true, if_false, Nat.add_zero]
      omega

/-- The cents that are left: none, or fewer than those that lost something. -/
theorem left_range (n s : Int) (zs : List Int) (hs : s = zs.sum) (s0 : 0 < s) : 0 ≤ leftP n s zs ∧ (leftP n s zs = 0 ∨ leftP n s zs < (lostL n s zs).countP (fun q => decide (0 < q))) := by
  have e := part_lost_sum n s zs
  rw [← hs] at e
  obtain ⟨b0, b1⟩ := lost_sum_le s s0 (lostL n s zs) (lost_bound n s s0 zs)
  have e2 : leftP n s zs * s = (lostL n s zs).sum := by
    unfold leftP
    rw [Int.sub_mul, Int.mul_comm (partL n s zs).sum s]
    omega
  generalize leftP n s zs = L at *
  generalize (List.countP (fun q => decide (0 < q)) (lostL n s zs)) = C at *
  have L0 : 0 ≤ L := by
    rcases Int.lt_or_le L 0 with g | g
    · have : L * s < 0 := Int.mul_neg_of_neg_of_pos g s0
      omega
    · exact g
  refine ⟨L0, ?_⟩
  rcases Int.lt_or_le L C with g | g
  · exact Or.inr g
  · left
    have h1 : (C : Int) * (s - 1) = C * s - C := by rw [Int.mul_sub]; omega
    have h2 : (C : Int) * s ≤ L * s := Int.mul_le_mul_of_nonneg_right g (by omega)
    have h3 : C = 0 := by omega
    subst h3
    have : L * s = 0 := by omega
    rcases Int.mul_eq_zero.mp this with h | h <;> omega

theorem rank_zero (ls : List Int) (i : Nat) (hz : ls.getD i 0 = 0) : ls.countP (fun q => decide (0 < q)) ≤ rankOf ls i := by
  have e : ls.countP (fun q => decide (0 < q)) = (cutsOf ls).countP (fun y => decide (0 < y.2)) := by
    conv => lhs; rw [← cutsOf_snd ls]
    rw [List.countP_map]
    rfl
  rw [e]
  unfold rankOf
  apply List.countP_mono_left
  intro y _ hy
  rw [aheadB_iff, hz]
  left
  simpa using hy

theorem rank_mono (ls : List Int) (i j : Nat) (hij : i < j) (e : ls.getD i 0 = ls.getD j 0) : rankOf ls i ≤ rankOf ls j := by
  unfold rankOf
  apply List.countP_mono_left
  intro y _ hy
  refine ahead_trans y _ _ hy ?_
  rw [aheadB_iff]
  right
  exact ⟨e, by simp only; omega⟩

theorem proL_length (n : Int) (zs : List Int) : (proL n zs).length = zs.length := by
  unfold proL
  split
  · simp
  · split
    · simp
    · split
      · rfl
      · rw [bump_length]; simp [partL]

/-- Each share between: its part, and a cent more where something was lost and few are ahead. -/
theorem pro_share (n s : Int) (zs : List Int) (h : sumFrom zs 0 = some s) (n0 : 0 < n) (n1 : n < s) (i : Nat) (hi : i < zs.length) :
    ∃ b : Int, (proL n zs).getD i 0 = n * zs.getD i 0 / s + b ∧ (b = 0 ∨ (b = 1 ∧ 0 < n * zs.getD i 0 % s)) ∧ (b = if rankOf (lostL n s zs) i < (leftP n s zs).toNat then 1 else 0) := by
  obtain ⟨hs, hp, ht⟩ := sumFrom_some zs 0 s h (Int.le_refl _) (by decide)
  have hs : s = zs.sum := by omega
  have hlr := left_range n s zs hs (by omega)
  have hpi : (partL n s zs).getD i 0 = n * zs.getD i 0 / s := by simp [partL, hi]
  have hli : (lostL n s zs).getD i 0 = n * zs.getD i 0 % s := by simp [lostL, hi]
  refine ⟨if rankOf (lostL n s zs) i < (leftP n s zs).toNat then 1 else 0, ?_, ?_, rfl⟩
  · unfold proL
    rw [h]
    simp only
    rw [if_neg (by omega), if_neg (by omega), bump_at _ _ _ _ (by simpa [partL] using hi), hpi]
  · by_cases g : rankOf (lostL n s zs) i < (leftP n s zs).toNat
    · rw [if_pos g]
      right
      refine ⟨rfl, ?_⟩
      rcases Int.lt_or_le 0 (n * zs.getD i 0 % s) with q | q
      · exact q
      · exfalso
        have q0 : 0 ≤ n * zs.getD i 0 % s := Int.emod_nonneg _ (by omega)
        have := rank_zero (lostL n s zs) i (by rw [hli]; omega)
        omega
    · rw [if_neg g]
      exact Or.inl rfl

theorem pro_sum (n s : Int) (zs : List Int) (h : sumFrom zs 0 = some s) (n0 : 0 < n) (n1 : n < s) : (proL n zs).sum = n := by
  obtain ⟨hs, hp, ht⟩ := sumFrom_some zs 0 s h (Int.le_refl _) (by decide)
  have hs : s = zs.sum := by omega
  have hlr := left_range n s zs hs (by omega)
  have hc : (lostL n s zs).countP (fun q => decide (0 < q)) ≤ zs.length := by
    have := List.countP_le_length (p := fun q => decide (0 < q)) (l := lostL n s zs)
    simpa [lostL] using this
  unfold proL
  rw [h]
  simp only
  rw [if_neg (by omega), if_neg (by omega), bump_sum _ _ (by simp [partL, lostL]) _ (by simp only [lostL, List.length_map] at *; omega)]
  have : leftP n s zs = n - (partL n s zs).sum := rfl
  omega

end Go.Proofs.Ytmchjfiaphkpdaa
