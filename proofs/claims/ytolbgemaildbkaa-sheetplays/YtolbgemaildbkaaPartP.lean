/-
  Plain facts: what each account gets of some entries; entries in another order, and their opposites.
-/
import Derived.Test.YtolbgemaildbkaaEntP
namespace Go.Proofs.Ytolbgemaildbkaa
open Go.RowKit

/-- What account i gets of the entries. -/
def partA (i : Nat) : List Ent → Int
  | [] => 0
  | e :: r => (if e.acc = (i : Int) then e.amt else 0) + partA i r
theorem partA_append (i : Nat) : ∀ es fs : List Ent, partA i (es ++ fs) = partA i es + partA i fs
  | [], fs => by simp [partA]
  | e :: r, fs => by rw [List.cons_append, partA, partA, partA_append i r fs]; omega
theorem addAll_getD (i : Nat) : ∀ (es : List Ent) (bal : List Int), i < bal.length → (∀ e ∈ es, 0 ≤ e.acc) → (addAll bal es).getD i 0 = bal.getD i 0 + partA i es
  | [], bal, _, _ => by simp [addAll, partA]
  | e :: r, bal, hi, h => by
    rw [addAll, addAll_getD i r _ (by rw [List.length_set]; exact hi) (fun x hx => h x (by simp [hx])), partA]
    have h0 := h e (by simp)
    by_cases he : e.acc = (i : Int)
    · have : e.acc.toNat = i := by omega
      rw [this, if_pos he, List.getD_eq_getElem?_getD, List.getElem?_set_self hi]
      simp only [Option.getD_some]
      omega
    · have : e.acc.toNat ≠ i := by omega
      rw [if_neg he, List.getD_eq_getElem?_getD, List.getElem?_set_ne this, ← List.getD_eq_getElem?_getD]
      omega
theorem ext_getD {a b : List Int} (hl : a.length = b.length) (h : ∀ i, i < a.length → a.getD i 0 = b.getD i 0) : a = b := by
  apply List.ext_getElem hl
  intro i h1 h2
  have := h i h1
  simpa [h1, h2] using this
theorem addAll_same {n : Nat} {B : Int} {bal : List Int} {es fs : List Ent} (h1 : Small n B es) (h2 : Small n B fs) (h : ∀ i, partA i es = partA i fs) : addAll bal es = addAll bal fs := by
  apply ext_getD
  · rw [addAll_length, addAll_length]
  · intro i hi
    rw [addAll_length] at hi
    rw [addAll_getD i es bal hi (fun e he => (h1 e he).1.1), addAll_getD i fs bal hi (fun e he => (h2 e he).1.1), h i]
/-- The opposite of an entry. -/
def Ent.neg (e : Ent) : Ent := ⟨e.acc, -e.amt⟩
theorem partA_neg (i : Nat) : ∀ es : List Ent, partA i (es.map Ent.neg) = - partA i es
  | [] => rfl
  | e :: r => by
    rw [List.map_cons, partA, partA, partA_neg i r]
    simp only [Ent.neg]
    split <;> omega
theorem sumA_neg (es : List Ent) : sumA (es.map Ent.neg) = - sumA es := by
  induction es with
  | nil => rfl
  | cons e r ih => rw [List.map_cons, sumA_cons, sumA_cons, ih]; simp only [Ent.neg]; omega
theorem Small.neg {n : Nat} {B : Int} {es : List Ent} (h : Small n B es) : Small n B (es.map Ent.neg) := fun e he => by
  obtain ⟨x, hx, rfl⟩ := List.mem_map.1 he
  have := h x hx
  simp only [Ent.neg]
  omega
theorem addAll_back {n : Nat} {B : Int} {bal : List Int} {es : List Ent} (h : Small n B es) : addAll (addAll bal es) (es.map Ent.neg) = bal := by
  apply ext_getD
  · rw [addAll_length, addAll_length]
  · intro i hi
    rw [addAll_length, addAll_length] at hi
    rw [addAll_getD i _ _ (by rw [addAll_length]; exact hi) (fun e he => (h.neg e he).1.1), addAll_getD i es bal hi (fun e he => (h e he).1.1), partA_neg]
    omega
/-- A post that may be. -/
theorem Small.posts {n : Nat} {B : Int} {es : List Ent} {bal : List Int} (h : Small n B es) (h0 : 0 ≤ B) (hB : B ≤ 1125899906842624) (hl : es.length ≤ 64) (hp : 0 < es.length) (hs : sumA es = 0) (C : Int) (hC : C ≤ 576460752303423488) (hb : ∀ x ∈ bal, -C ≤ x ∧ x ≤ C) (c : Int) :
    postB n bal es = true ∧ postL n bal es = addAll bal es ∧ postC n bal es c = c + 1 := by
  have e : postB n bal es = true := by rw [h.post h0 hB hl C hC hb, hs]; simp [hp]
  exact ⟨e, by rw [postL, e, if_pos rfl], by rw [postC, e, if_pos rfl]⟩
theorem post_not {n : Nat} {es : List Ent} {bal : List Int} (c : Int) (e : postB n bal es = false) : postB n bal es = false ∧ postL n bal es = bal ∧ postC n bal es c = c :=
  ⟨e, by rw [postL, e, if_neg (by simp)], by rw [postC, e, if_neg (by simp)]⟩
theorem bd_ok {C : Int} (hC : C ≤ 1152921504606846976) {bal : List Int} (h : ∀ x ∈ bal, -C ≤ x ∧ x ≤ C) : ∀ x ∈ bal, amtOk x = true := fun x hx => (amtOk_iff x).2 (by have := h x hx; omega)
end Go.Proofs.Ytolbgemaildbkaa
