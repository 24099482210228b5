/-
  Slices of structs: what one reads as, whatever its element's number of cells; its parts; as a source of an append; what the call owns.
-/
import Derived.Test.YtamdmicdieeolaaMem
namespace Go.Proofs.Ytamdmicdieeolaa
open Go.RowKit

/-- The slice value v has the elements xs, each laid in m cells as f says. -/
def Lies {α : Type} (m : Nat) (f : α → List Value) (w : World) (v : Value) (xs : List α) : Prop :=
  ∃ a cap, v = .slice a xs.length cap ∧ xs.length ≤ cap ∧ cap ≤ maxLen ∧ (a = none → cap = 0) ∧
    (xs = [] ∨ ∃ b off, a = some ⟨b, off, none⟩ ∧ ∀ i x, xs[i]? = some x → ∀ j u, (f x)[j]? = some u → w.cell? ⟨b, off + i * m + j, none⟩ = some u)

section
variable {α : Type} {m : Nat} {f : α → List Value} {w w' : World} {v : Value} {xs : List α}

theorem flat_length (hl : ∀ x, (f x).length = m) : ∀ xs : List α, (xs.flatMap f).length = xs.length * m
  | [] => by simp
  | x :: r => by rw [List.flatMap_cons, List.length_append, hl, flat_length hl r, List.length_cons, Nat.succ_mul]; omega

/-- The j-th cell of the i-th element. -/
theorem flat_at (hl : ∀ x, (f x).length = m) : ∀ (xs : List α) (i j : Nat) (x : α), xs[i]? = some x → j < m → (xs.flatMap f)[i * m + j]? = (f x)[j]?
  | [], i, j, x, h, _ => by simp at h
  | y :: r, 0, j, x, h, hj => by
    simp only [List.getElem?_cons_zero, Option.some.injEq] at h
    subst h
    rw [List.flatMap_cons, Nat.zero_mul, Nat.zero_add, List.getElem?_append_left (by rw [hl]; exact hj)]
  | y :: r, i + 1, j, x, h, hj => by
    simp only [List.getElem?_cons_succ] at h
    rw [List.flatMap_cons, List.getElem?_append_right (by rw [hl, Nat.succ_mul]; omega), hl, ← flat_at hl r i j x h hj]
    congr 1
    rw [Nat.succ_mul]
    omega

theorem flat_one (h1 : ∀ x, ∀ u ∈ f x, u.oneCell' = true) : ∀ u ∈ xs.flatMap f, u.oneCell' = true := by
  intro u hu
  obtain ⟨x, _, hx⟩ := List.mem_flatMap.1 hu
  exact h1 x u hx

theorem Lies.below (h : Lies m f w v xs) (hb : Below w.heap.size w w') : Lies m f w' v xs := by
  obtain ⟨a, cap, rfl, h1, h2, h3, hz⟩ := h
  refine ⟨a, cap, rfl, h1, h2, h3, ?_⟩
  rcases hz with h | ⟨b, off, rfl, hc⟩
  · exact Or.inl h
  · refine Or.inr ⟨b, off, rfl, fun i x hi j u hj => ?_⟩
    have := hc i x hi j u hj
    exact (hb.cell (cell_block this)).trans this

theorem Lies.nil (m : Nat) (f : α → List Value) (w : World) : Lies m f w (.slice none 0 0) [] := ⟨none, 0, rfl, Nat.le_refl _, Nat.zero_le _, fun _ => rfl, Or.inl rfl⟩

theorem Lies.len {a : Option Addr} {n cap : Nat} (h : Lies m f w (.slice a n cap) xs) : xs.length = n ∧ n ≤ cap ∧ cap ≤ maxLen := by
  obtain ⟨a', cap', e, h1, h2, h3, _⟩ := h
  simp only [Value.slice.injEq] at e
  obtain ⟨rfl, rfl, rfl⟩ := e
  exact ⟨rfl, h1, h2⟩

/-- Where it lies. -/
theorem Lies.place {a : Option Addr} {n cap : Nat} (h : Lies m f w (.slice a n cap) xs) (hn : 0 < n) :
    ∃ b off, a = some ⟨b, off, none⟩ ∧ ∀ i x, xs[i]? = some x → ∀ j u, (f x)[j]? = some u → w.cell? ⟨b, off + i * m + j, none⟩ = some u := by
  have hl := h.len
  obtain ⟨a', cap', e, h1, h2, h3, hz⟩ := h
  simp only [Value.slice.injEq] at e
  obtain ⟨rfl, _, rfl⟩ := e
  rcases hz with h | h
  · subst h; simp at hl; omega
  · exact h

theorem Lies.take {a : Option Addr} {n cap : Nat} (h : Lies m f w (.slice a n cap) xs) (k : Nat) (hk : k ≤ n) : Lies m f w (.slice a k cap) (xs.take k) := by
  have hl := h.len
  obtain ⟨a', cap', e, h1, h2, h3, hz⟩ := h
  simp only [Value.slice.injEq] at e
  obtain ⟨rfl, _, rfl⟩ := e
  have hk' : (xs.take k).length = k := by rw [List.length_take]; omega
  refine ⟨a, cap, by rw [hk'], by omega, h2, h3, ?_⟩
  rcases hz with rfl | ⟨b, off, rfl, hc⟩
  · exact Or.inl (by simp)
  · refine Or.inr ⟨b, off, rfl, fun i x hi j u hj => hc i x ?_ j u hj⟩
    rw [List.getElem?_take] at hi
    split at hi
    · exact hi
    · simp at hi

theorem Lies.drop {b off n cap : Nat} (h : Lies m f w (.slice (some ⟨b, off, none⟩) n cap) xs) (k : Nat) (hk : k ≤ n) (A : Option Addr) (hA : A = if cap = k then some ⟨b, off, none⟩ else some ⟨b, off + k * m, none⟩) :
    Lies m f w (.slice A (n - k) (cap - k)) (xs.drop k) := by
  have hl := h.len
  obtain ⟨a', cap', e, h1, h2, h3, hz⟩ := h
  simp only [Value.slice.injEq] at e
  obtain ⟨rfl, _, rfl⟩ := e
  refine ⟨A, cap - k, by rw [List.length_drop, hl.1], by rw [List.length_drop]; omega, by omega, ?_, ?_⟩
  · intro hn; subst hn; split at hA <;> simp at hA
  · by_cases hck : cap = k
    · left
      exact List.drop_eq_nil_of_le (by omega)
    · rw [if_neg hck] at hA
      subst hA
      rcases hz with rfl | ⟨b', off', e, hc⟩
      · exact Or.inl (by simp)
      · simp only [Option.some.injEq, Addr.mk.injEq] at e
        obtain ⟨rfl, rfl, _⟩ := e
        refine Or.inr ⟨b, off + k * m, rfl, fun i x hi j u hj => ?_⟩
        rw [List.getElem?_drop] at hi
        have := hc (k + i) x hi j u hj
        rw [Nat.add_mul] at this
        rw [show off + k * m + i * m + j = off + (k * m + i * m) + j by omega]
        exact this

/-- As a source of an append. -/
theorem Lies.src (h : Lies m f w v xs) (hl : ∀ x, (f x).length = m) (hm : 0 < m) : Src w v xs.length (xs.flatMap f) := by
  obtain ⟨a, cap, rfl, h1, h2, h3, hz⟩ := h
  rcases hz with rfl | ⟨b, off, rfl, hc⟩
  · exact ⟨a, cap, rfl, fun e => ⟨rfl, h3 e⟩, fun _ _ j u hj => by simp at hj⟩
  · refine ⟨_, cap, rfl, fun e => by simp at e, fun a ha j u hj => ?_⟩
    simp only [Option.some.injEq] at ha
    subst ha
    have hj' : j < xs.length * m := by
      rw [← flat_length hl]
      rcases Nat.lt_or_ge j (xs.flatMap f).length with h | h
      · exact h
      · rw [List.getElem?_eq_none h] at hj; simp at hj
    have hq : j / m < xs.length := (Nat.div_lt_iff_lt_mul hm).2 hj'
    have hr : j % m < m := Nat.mod_lt _ hm
    have hd : j / m * m + j % m = j := by rw [Nat.mul_comm]; exact Nat.div_add_mod j m
    have hx : xs[j / m]? = some xs[j / m] := List.getElem?_eq_getElem hq
    rw [← hd, flat_at hl xs _ _ _ hx hr] at hj
    have := hc _ _ hx _ u hj
    rw [Addr.add_lit, ← hd]
    rw [Nat.add_assoc] at this
    exact this

/-- What the call owns. -/
theorem own_lies {base : Nat} {e : TypeId} {n : Nat} (hl : ∀ x, (f x).length = m) (h : w.ownsRow base e m v n (xs.flatMap f)) (hn : xs.length = n) : Lies m f w v xs := by
  rcases h.2 with ⟨rfl, rfl⟩ | ⟨g, cap, cur, rfl, _, _, hnc, hcm, _, _⟩
  · have : xs = [] := List.eq_nil_of_length_eq_zero hn
    subst this
    exact Lies.nil _ _ _
  · refine ⟨_, cap, by rw [hn], by omega, hcm, by simp, Or.inr ⟨g, 0, rfl, fun i x hi j u hj => ?_⟩⟩
    have hjm : j < m := by
      rw [← hl x]
      rcases Nat.lt_or_ge j (f x).length with h | h
      · exact h
      · rw [List.getElem?_eq_none h] at hj; simp at hj
    have := h.cells (g := g) rfl (i * m + j) u (by rw [flat_at hl xs i j x hi hjm]; exact hj)
    rw [Addr.add_lit] at this
    rw [Nat.add_assoc]
    exact this
/-- One more element, laid in a block of its own. -/
theorem own_more {base : Nat} {e : TypeId} {n : Nat} (x : α) (h : w.ownsRow base e m v n (xs.flatMap f ++ f x)) : w.ownsRow base e m v n ((xs ++ [x]).flatMap f) := by
  rw [List.flatMap_append, List.flatMap_cons, List.flatMap_nil, List.append_nil]
  exact h
end
/-- Elements laid in a block of their own. -/
theorem src_new (w : World) (cs : List Value) (n : Nat) (e : TypeId) : Src (w.alloc (.cells cs.toArray e)) (.slice (some ⟨w.heap.size, 0, none⟩) n n) n cs := by
  refine ⟨_, n, rfl, fun h => by simp at h, fun a ha j u hj => ?_⟩
  simp only [Option.some.injEq] at ha
  subst ha
  rw [Addr.add_lit]
  simp [go_sem, hj]
/-- What the call owns is as it was where its block is. -/
theorem own_same {w w' : World} {base : Nat} {e : TypeId} {m : Nat} {v : Value} {n : Nat} {xs : List Value} (h : w.ownsRow base e m v n xs) (hb : ∀ g, v.ownBlock = some g → w'.heap[g]? = w.heap[g]?) : w'.ownsRow base e m v n xs := by
  refine ⟨h.1, ?_⟩
  rcases h.2 with h | ⟨g, cap, cur, rfl, h1, h2, h3⟩
  · exact Or.inl h
  · exact Or.inr ⟨g, cap, cur, rfl, h1, by rw [hb g rfl]; exact h2, h3⟩
theorem own_below {w w' : World} {base : Nat} {e : TypeId} {m : Nat} {v : Value} {n : Nat} {xs : List Value} (h : w.ownsRow base e m v n xs) (hb : Below w.heap.size w w') : w'.ownsRow base e m v n xs := own_same h fun g hg => hb.block g (h.lt g hg).2
end Go.Proofs.Ytamdmicdieeolaa
