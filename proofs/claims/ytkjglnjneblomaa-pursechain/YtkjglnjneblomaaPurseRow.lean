/-
  Five purses in a row: what Move does to them.
-/
import Derived.Test.YtkjglnjneblomaaPurseRunsWalk
import Derived.Test.YtkjglnjneblomaaMem
namespace Go.Proofs.Ytkjglnjneblomaa
open Go.RowKit

theorem Try.info_purses : (Try.prog.info? 23).map (fun i => (i.zero, i.size, i.bytes)) = some (some (.agg #[.int .i64 0, .int .i64 0]), 2, 16) := by kernel_rfl

/-- What is in five purses. -/
def has5 (I O : Nat → Int) : Int := (I 0 - O 0) + (I 1 - O 1) + (I 2 - O 2) + (I 3 - O 3) + (I 4 - O 4)
/-- What is in the first m of them. -/
def hasTo (I O : Nat → Int) : Nat → Int
  | 0 => 0
  | m + 1 => hasTo I O m + (I m - O m)
theorem hasTo_five (I O : Nat → Int) : hasTo I O 5 = has5 I O := by simp [hasTo, has5]

/-- The block G has five purses: with A in them, and no more than B ever in each. -/
structure Rw (w : World) (G : Nat) (I O : Nat → Int) (A B : Int) : Prop where
  pur : ∀ m, m < 5 → Pur w G (m * 2) (I m) (O m)
  fit : ∀ m, m < 5 → 0 ≤ O m ∧ O m ≤ I m ∧ I m ≤ B
  sum : has5 I O = A

theorem Rw.then {w w' : World} {G : Nat} {I O : Nat → Int} {A B : Int} (h : Rw w G I O A B) (b : Below w.heap.size w w') : Rw w' G I O A B := ⟨fun m hm => (h.pur m hm).then b, h.fit, h.sum⟩
theorem Rw.up {w : World} {G : Nat} {I O : Nat → Int} {A B C : Int} (h : Rw w G I O A B) (hB : B ≤ C) : Rw w G I O A C := ⟨h.pur, fun m hm => by have := h.fit m hm; omega, h.sum⟩
theorem Rw.has {w : World} {G : Nat} {I O : Nat → Int} {A B : Int} (h : Rw w G I O A B) (m : Nat) (hm : m < 5) : 0 ≤ I m - O m ∧ I m - O m ≤ A := by
  have h0 := h.fit 0 (by omega); have h1 := h.fit 1 (by omega); have h2 := h.fit 2 (by omega); have h3 := h.fit 3 (by omega); have h4 := h.fit 4 (by omega)
  have hs := h.sum
  unfold has5 at hs
  rcases (by omega : m = 0 ∨ m = 1 ∨ m = 2 ∨ m = 3 ∨ m = 4) with rfl | rfl | rfl | rfl | rfl <;> omega
theorem hasTo_bd {w : World} {G : Nat} {I O : Nat → Int} {A B : Int} (h : Rw w G I O A B) : ∀ m, m ≤ 5 → 0 ≤ hasTo I O m ∧ hasTo I O m ≤ A := by
  have h0 := h.fit 0 (by omega); have h1 := h.fit 1 (by omega); have h2 := h.fit 2 (by omega); have h3 := h.fit 3 (by omega); have h4 := h.fit 4 (by omega)
  have hs := h.sum
  unfold has5 at hs
  intro m hm
  rcases (by omega : m = 0 ∨ m = 1 ∨ m = 2 ∨ m = 3 ∨ m = 4 ∨ m = 5) with rfl | rfl | rfl | rfl | rfl | rfl <;> simp only [hasTo] <;> omega

/-- The numbers with one of them turned. -/
def turn (I : Nat → Int) (f : Nat) (x : Int) : Nat → Int := fun m => if m = f then x else I m
theorem turn_at (I : Nat → Int) (f : Nat) (x : Int) : turn I f x f = x := by simp [turn]
theorem turn_off (I : Nat → Int) (f m : Nat) (x : Int) (h : m ≠ f) : turn I f x m = I m := by simp [turn, h]

theorem has5_moved (I O : Nat → Int) (f t : Nat) (T : Int) (hf : f < 5) (ht : t < 5) : has5 (turn I t (I t + T)) (turn O f (O f + T)) = has5 I O := by
  unfold has5 turn
  rcases (by omega : f = 0 ∨ f = 1 ∨ f = 2 ∨ f = 3 ∨ f = 4) with rfl | rfl | rfl | rfl | rfl <;>
  rcases (by omega : t = 0 ∨ t = 1 ∨ t = 2 ∨ t = 3 ∨ t = 4) with rfl | rfl | rfl | rfl | rfl <;> simp <;> omega

/-- Move from one of the row to another one. -/
theorem move_row (G f t g : Nat) (n A B : Int) (I O : Nat → Int) (w : World) (h : Rw w G I O A B) (hf : f < 5) (ht : t < 5) (hne : f ≠ t) (hg : g ≠ G) (A1 : A ≤ 1099511627776) (B1 : B ≤ 1125899906842624)
    (h0 : w.cell? ⟨g, 0, none⟩ = some (.pointer (some ⟨G, t * 2, none⟩))) :
    Calls Try.prog 15 #[.int .i64 n, .pointer (some ⟨G, f * 2, none⟩), .slice (some ⟨g, 0, none⟩) 1 1] w fun e w' => e = .returned (.int .i64 (goes (I f) (O f) n)) ∧
      Rw w' G (turn I t (I t + goes (I f) (O f) n)) (turn O f (O f + goes (I f) (O f) n)) A (B + 1099511627776) ∧ ∀ C a, Below C a w → C ≤ G → C ≤ w.heap.size → Below C a w' := by
  obtain ⟨f0, f1, f2⟩ := h.fit f hf
  obtain ⟨t0, t1, t2⟩ := h.fit t ht
  have hfit : Fit (I f) (O f) := ⟨by omega, by omega, by omega⟩
  obtain ⟨g0, g1⟩ := goes_bd (n := n) hfit
  have hh := h.has f hf
  generalize hT : goes (I f) (O f) n = T at *
  have hm : mayPut (I t) T = true := by simp [mayPut]; omega
  have ap : Apart G (t * 2) G (f * 2) := Or.inr (by omega)
  have key := move_hit G (f * 2) (I f) (O f) n _ _ 0 G (t * 2) (I t) (O t) w hfit (h.pur f hf) (readsP_one (x := some (G, t * 2)) (cap := 1) hg h0) (by simp) (fun k hk => by omega) ⟨rfl, h.pur t ht, by omega, by omega, by rw [hT]; exact hm, ap⟩
  rw [hT] at key
  refine key.mono ?_
  rintro e w' ⟨rfl, w1, k1, p1, k2, p2⟩
  refine ⟨rfl, ⟨fun m hm => ?_, fun m hm => ?_, ?_⟩, fun C a hb hC hs => k2.below (k1.below hb hC hs) hC (Nat.le_trans hs k1.size)⟩
  · by_cases e1 : m = f
    · subst e1
      rw [turn_at, turn_off _ _ _ _ hne]
      exact p1.chg k2 ap.symm
    · rw [turn_off _ _ _ _ e1]
      by_cases e2 : m = t
      · subst e2
        rw [turn_at]
        exact p2
      · rw [turn_off _ _ _ _ e2]
        exact ((h.pur m hm).chg k1 (Or.inr (by omega))).chg k2 (Or.inr (by omega))
  · have := h.fit m hm
    unfold turn
    split <;> split <;> (try subst_vars) <;> omega
  · rw [has5_moved I O f t T hf ht]
    exact h.sum

/-- A row that is made holds nothing. -/
theorem own_five {w : World} {base : Nat} {e : TypeId} {g : Nat} (h : w.ownsRow base e 2 (.slice (some ⟨g, 0, none⟩) 5 5) 5 (madeCells (Value.agg #[.int .i64 0, .int .i64 0]).cells (5 * 2)).toList) : Rw w g (fun _ => 0) (fun _ => 0) 0 0 := by
  rcases h.2 with ⟨h', _⟩ | ⟨g', cap, cur, e', hb, hh, _, _, hs, ht⟩
  · simp at h'
  · simp only [Value.slice.injEq, Option.some.injEq, Addr.mk.injEq] at e'
    obtain ⟨⟨rfl, _⟩, _, rfl⟩ := e'
    have hc : cur = madeCells (Value.agg #[.int .i64 0, .int .i64 0]).cells (5 * 2) := by
      rw [List.take_of_length_le (by simp [hs])] at ht
      exact Array.toList_inj.1 ht
    rw [hc] at hh
    refine ⟨fun m hm => ?_, fun m _ => by omega, by simp [has5]⟩
    refine ⟨?_, ?_, by simp [World.frozen?, hh], by simp [World.frozen?, hh]⟩
    all_goals
      rcases (by omega : m = 0 ∨ m = 1 ∨ m = 2 ∨ m = 3 ∨ m = 4) with rfl | rfl | rfl | rfl | rfl <;> simp [World.cell?, hh, madeCells, Value.cells]
/-- The first one is laid anew. -/
theorem Rw.put0 {w : World} {G : Nat} {A : Int} (h : Rw w G (fun _ => 0) (fun _ => 0) 0 0) (A0 : 0 ≤ A) : Rw ((w.setCell ⟨G, 0, none⟩ (.int .i64 A)).setCell ⟨G, 1, none⟩ (.int .i64 0)) G (turn (fun _ => 0) 0 A) (fun _ => 0) A A := by
  have c : Chg G 0 w ((w.setCell ⟨G, 0, none⟩ (.int .i64 A)).setCell ⟨G, 1, none⟩ (.int .i64 0)) := (Chg.set0 w _).trans (Chg.set1 _ _)
  refine ⟨fun m hm => ?_, fun m _ => ?_, by simp [has5, turn]⟩
  · by_cases e : m = 0
    · subst e
      exact ((h.pur 0 hm).set0 A).set1 0
    · rw [turn_off _ _ _ _ e]
      exact (h.pur m hm).chg c (Or.inr (by omega))
  · show 0 ≤ (0 : Int) ∧ 0 ≤ (if m = 0 then A else 0) ∧ (if m = 0 then A else 0) ≤ A
    split <;> omega
end Go.Proofs.Ytkjglnjneblomaa
