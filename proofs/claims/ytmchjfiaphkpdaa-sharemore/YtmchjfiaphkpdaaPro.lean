/-
  Package share: the walk of Pro.
-/
import Derived.Test.YtmchjfiaphkpdaaGive
import Derived.Test.YtmchjfiaphkpdaaMdFacts
namespace Go.Proofs.Ytmchjfiaphkpdaa
open Go.RowKit Go.Shelf Go.Lib Go.Sort

theorem Try.info_cuts : (Try.prog.info? 40).map (fun i => (i.zero, i.size, i.bytes)) = some (some (.agg #[.int .i64 0, .int .i64 0]), 2, 16) := by kernel_rfl

/-- A block of l cuts, of which the first k are laid. -/
def CutBlk (w : World) (g l k : Nat) (ls : List Int) : Prop :=
  ∃ X : Array Value, w.heap[g]? = some (.cells X 40 (0, 0)) ∧ X.size = l * 2 ∧ ∀ i, i < k → X[i * 2]? = some (.int .i64 i) ∧ X[i * 2 + 1]? = some (.int .i64 (ls.getD i 0))

theorem CutBlk.lt {w : World} {g l k : Nat} {ls : List Int} (h : CutBlk w g l k ls) : g < w.heap.size := by
  obtain ⟨X, h, _⟩ := h
  exact (Array.getElem?_eq_some_iff.1 h).1
theorem CutBlk.of_heap {w w' : World} {g l k : Nat} {ls : List Int} (h : CutBlk w g l k ls) (e : w'.heap[g]? = w.heap[g]?) : CutBlk w' g l k ls := by
  obtain ⟨X, h, r⟩ := h
  exact ⟨X, e.trans h, r⟩
theorem IntBlk.of_heap {w w' : World} {g : Nat} {xs : List Int} (h : IntBlk w g xs) (e : w'.heap[g]? = w.heap[g]?) : IntBlk w' g xs := e.trans h
theorem CutBlk.cells {w : World} {g l k : Nat} {ls : List Int} (h : CutBlk w g l k ls) (i : Nat) (hi : i < l) :
    (∃ u, w.cell? ⟨g, i * 2, none⟩ = some u) ∧ (∃ u, w.cell? ⟨g, i * 2 + 1, none⟩ = some u) ∧ w.frozen? ⟨g, i * 2, none⟩ = false ∧ w.frozen? ⟨g, i * 2 + 1, none⟩ = false := by
  obtain ⟨X, h, hs, _⟩ := h
  refine ⟨⟨X[i * 2]'(by omega), ?_⟩, ⟨X[i * 2 + 1]'(by omega), ?_⟩, ?_, ?_⟩
  · simp [World.cell?, h, show i * 2 < X.size by omega]
  · simp [World.cell?, h, show i * 2 + 1 < X.size by omega]
  · simp [World.frozen?, h]
  · simp [World.frozen?, h]
theorem CutBlk.next {w : World} {g l k : Nat} {ls : List Int} (h : CutBlk w g l k ls) (hk : k < l) (q : Int) (hq : ls.getD k 0 = q) : CutBlk ((w.setCell ⟨g, k * 2, none⟩ (.int .i64 k)).setCell ⟨g, k * 2 + 1, none⟩ (.int .i64 q)) g l (k + 1) ls := by
  obtain ⟨X, h, hs, hx⟩ := h
  refine ⟨(X.setIfInBounds (k * 2) (.int .i64 k)).setIfInBounds (k * 2 + 1) (.int .i64 q), ?_, by simpa using hs, ?_⟩
  · rw [setCell_eq, setCell_eq, mapBlock_mapBlock]
    simp [mapBlock, Array.getElem?_modify, h, onCells]
  · intro i hi
    rcases Nat.lt_or_ge i k with hlt | hge
    · obtain ⟨e1, e2⟩ := hx i hlt
      constructor
      · rw [Array.getElem?_setIfInBounds_ne (by omega), Array.getElem?_setIfInBounds_ne (by omega), e1]
      · rw [Array.getElem?_setIfInBounds_ne (by omega), Array.getElem?_setIfInBounds_ne (by omega), e2]
    · obtain rfl : i = k := by omega
      constructor
      · rw [Array.getElem?_setIfInBounds_ne (by omega), Array.getElem?_setIfInBounds_self_of_lt (by omega)]
      · rw [Array.getElem?_setIfInBounds_self_of_lt (by simp; omega), hq]
theorem CutBlk.holds {w : World} {g l : Nat} {ls : List Int} (h : CutBlk w g l l ls) (hl : ls.length = l) : HoldsK encC 2 w g 0 (cutsOf ls).toArray := by
  obtain ⟨X, h, hs, hx⟩ := h
  intro j hj
  have hj' : j < ls.length * 2 := by simpa [cutsOf_length] using hj
  refine ⟨?_, by simp [World.frozen?, h]⟩
  rw [get_flatK _ _ _ _ (by simpa [cutsOf_length] using hj'), Nat.zero_add]
  have hi : j / 2 < ls.length := by omega
  have e : (cutsOf ls).toArray[j / 2]! = (((j / 2 : Nat) : Int), ls.getD (j / 2) 0) := by
    have := cutsOf_at ls (j / 2) hi
    simp [this]
  rw [e]
  obtain ⟨e1, e2⟩ := hx (j / 2) (by omega)
  have hc : w.cell? ⟨g, j, none⟩ = X[j]? := by simp [World.cell?, h]
  rw [hc]
  rcases Nat.mod_two_eq_zero_or_one j with m | m
  · rw [m, show j = j / 2 * 2 by omega, e1]
    simp [encC]
  · rw [m, show j = j / 2 * 2 + 1 by omega, e2]
    simp [encC, show (j / 2 * 2 + 1) / 2 = j / 2 by omega]

theorem fill_set (A : List Int) (n : Nat) (x : Int) (k : Nat) (hk : A.length = k) (h : k < n) : (fillAt A n).set k x = fillAt (A ++ [x]) n := by
  unfold fillAt
  obtain ⟨m, hm⟩ : ∃ m, n - A.length = m + 1 := ⟨n - A.length - 1, by omega⟩
  rw [hm, List.set_append_right _ _ (by omega), List.replicate_succ, ← hk, Nat.sub_self, List.set_cons_zero]
  simp only [List.append_assoc, List.singleton_append, List.length_append, List.length_cons, List.length_nil]
  rw [show n - (A.length + (0 + 1)) = m by omega]

/-- The part of a claim, down to the cent. -/
theorem md_part (n c s : Int) (n0 : 0 < n) (n1 : n < s) (c0 : 0 ≤ c) (c1 : c ≤ s) (s1 : s ≤ 1152921504606846976) : mdV n c s 0 = n * c / s ∧ 0 ≤ n * c / s ∧ n * c / s ≤ c := by
  have h1 : n * c / s ≤ c := by
    apply Int.ediv_le_of_le_mul (by omega)
    rw [Int.mul_comm c s]
    exact Int.mul_le_mul_of_nonneg_right (by omega) c0
  have h0 : 0 ≤ n * c / s := Int.ediv_nonneg (Int.mul_nonneg (by omega) c0) (by omega)
  refine ⟨?_, h0, h1⟩
  have hr : mdRaw n c s 0 = n * c / s := by unfold mdRaw; rw [upB_down]; simp
  unfold mdV mdB mdIn
  rw [hr]
  simp only [Bool.and_eq_true, decide_eq_true_eq]
  rw [if_pos (by omega)]

/-- What the two products that wrap round part by. -/
theorem wrap_lost (n c s p : Int) (h0 : 0 ≤ n * c - p * s) (h1 : n * c - p * s ≤ 1152921504606846976) : IntKind.i64.wrap (IntKind.i64.wrap (n * c) - IntKind.i64.wrap (p * s)) = n * c - p * s := by
  simp only [IntKind.wrap_i64]
  generalize n * c = X at *
  generalize p * s = Y at *
  omega

theorem below_blk {B g : Nat} {w w' : World} (h : Below B w w') (hg : g < B) : w'.heap[g]? = w.heap[g]? := h.block g hg

set_option maxHeartbeats 1000000 in
theorem pro_zero (n : Int) (v : Value) (zs : List Int) (w : World) (h : Reads w v zs) (hb : zs.length ≤ 1000000) (hz : sumFrom zs 0 = none ∨ n ≤ 0) :
    Calls Try.prog 11 #[.int .i64 n, v] w fun e w' => e = .returned (.slice (some ⟨w.heap.size, 0, none⟩) zs.length zs.length) ∧
      w'.ownsRow w.heap.size 3 1 (.slice (some ⟨w.heap.size, 0, none⟩) zs.length zs.length) zs.length ((List.replicate zs.length (0 : Int)).map (Value.int .i64)) ∧ Below w.heap.size w w' := by
  obtain ⟨i0, hi, hz0, hz1, hz2⟩ := info_parts Try.info_ints
  obtain ⟨a, cap, rfl, hcap, hm, _⟩ := id h
  obtain ⟨l, hl⟩ : ∃ l, zs.length = l := ⟨_, rfl⟩
  have HR : Hid (∀ w1, Below w.heap.size w w1 → Calls Try.prog 18 #[.slice a l cap] w1 fun e w' => e = .returned (.tuple #[.int .i64 ((sumFrom zs 0).getD 0), .bool (sumFrom zs 0).isSome]) ∧ w' = w1) := fun w1 b => by rw [← hl]; exact sum_any _ zs w1 (h.below b)
  rw [hl] at hb hcap ⊢
  clear h hl hm
  generalize (sumFrom zs 0).getD 0 = sv at HR
  have hb0 : (sumFrom zs 0).isSome = false ∨ n ≤ 0 := by
    rcases hz with e | e
    · left; rw [e]; rfl
    · exact Or.inr e
  clear hz
  generalize (sumFrom zs 0).isSome = ok at HR hb0
  go_enter Try.func11, Try.ntmps11
  go_upto_region 2 with (at_make; refine wpList_make_full _ rfl _ _ 23 rfl w.heap.size 3 i0 (.int .i64 0) 1 Try.underlying23 hi hz0 hz1 .i64 .i64 _ _ l rfl rfl (by simp) (by simp) (by rw [hz2]; omega) (by unfold maxLen; omega) (Nat.le_refl _) ?_; intro w1 o1 g1)
  have b1 : Below w.heap.size w w1 := below_grown (Below.refl _ _) g1 (fun k hk => by simp at hk)
  rw [made_zeros] at o1
  have HO : Hid (w1.ownsRow w.heap.size 3 1 (.slice (some ⟨w.heap.size, 0, none⟩) l l) l ((List.replicate l (0 : Int)).map (Value.int .i64))) := o1
  have HB : Hid (Below w.heap.size w w1) := b1
  have hs := HR.out w1 b1
  clear o1 b1 g1 HR
  rcases hb0 with rfl | hn
  · go_wp2_with (go_at_call 18; refine hs.mono ?_; rintro e w' ⟨rfl, rfl⟩)
    go_ret
    exact ⟨rfl, HO.out, HB.out⟩
  · cases ok with
    | true =>
      go_wp2_with (go_at_call 18; refine hs.mono ?_; rintro e w' ⟨rfl, rfl⟩)
      go_ret
      exact ⟨rfl, HO.out, HB.out⟩
    | false =>
      go_wp2_with (go_at_call 18; refine hs.mono ?_; rintro e w' ⟨rfl, rfl⟩)
      go_ret
      exact ⟨rfl, HO.out, HB.out⟩

end Go.Proofs.Ytmchjfiaphkpdaa
