/-
  Deals of numbers under way: what is known of the world as the modes' lists are laid one by one.
-/
import Derived.Test.YtamdmicdieeolaaDealKG
namespace Go.Proofs.Ytamdmicdieeolaa
open Go.RowKit

/-- The deal with m modes' lists laid. -/
structure ModeS (w : World) (KB R G : Nat) (ks : List Value) (t : NumT) (lv : Value) (nl : Nat) (ls : List Value) (nv : Value) (nn : Nat) (ns : List Value) (m : Nat) (V : List Value) (S : List (List StT)) (wx : World) : Prop where
  kd : KD w wx KB R G ks ((NumT.f t lv nv nilV nilV nilV).take 15 ++ V)
  ol : wx.ownsRow (G + 1) 46 2 lv nl ls
  on : wx.ownsRow (G + 1) 32 3 nv nn ns
  lenV : V.length = 3
  lenS : S.length = m
  each : ∀ (j : Nat) (v : Value) (xs : List StT), V[j]? = some v → S[j]? = some xs → stepsP xs = true ∧ wx.ownsRow (G + 1) 37 2 v xs.length (xs.flatMap StT.f)
  apart : ∀ (i j : Nat) (v u : Value), i < j → j < m → V[i]? = some v → V[j]? = some u → ∀ g, v.ownBlock = some g → u.ownBlock ≠ some g
section
variable {w wx wy : World} {KB R G : Nat} {ks : List Value} {t : NumT} {lv nv : Value} {nl nn m : Nat} {ls ns : List Value} {V : List Value} {S : List (List StT)}
theorem ModeS.then (h : ModeS w KB R G ks t lv nl ls nv nn ns m V S wx) (b : Below wx.heap.size wx wy) : ModeS w KB R G ks t lv nl ls nv nn ns m V S wy :=
  ⟨h.kd.then b, own_below h.ol b, own_below h.on b, h.lenV, h.lenS, fun j v xs h1 h2 => by have := h.each j v xs h1 h2; exact ⟨this.1, own_below this.2 b⟩, h.apart⟩
/-- One more list, laid in blocks of its own. -/
theorem ModeS.next (h : ModeS w KB R G ks t lv nl ls nv nn ns m V S wx) (b : Below wx.heap.size wx wy) {u : Value} {xs : List StT} (hs : stepsP xs = true) (o : wy.ownsRow wx.heap.size 37 2 u xs.length (xs.flatMap StT.f)) (hm : m < 3) (h0 : w.heap.size ≤ G) (h1 : KB < G) (h2 : R < G) :
    ModeS w KB R G ks t lv nl ls nv nn ns (m + 1) (V.set m u) (S ++ [xs]) (wy.setCell ⟨G, 15 + m, none⟩ u) := by
  have hy := h.then b
  have gl := h.kd.d.lt
  have hl : ((NumT.f t lv nv nilV nilV nilV).take 15).length = 15 := rfl
  have hk := hy.kd.set (15 + m) u h0 h1 h2
  rw [List.set_append_right _ _ (by omega), hl, Nat.add_sub_cancel_left] at hk
  refine ⟨hk, own_set hy.ol (by omega), own_set hy.on (by omega), by simp [h.lenV], by simp [h.lenS], fun j v ys g1 g2 => ?_, fun i j v v' hij hj g1 g2 g e => ?_⟩
  · by_cases hjm : j = m
    · subst hjm
      rw [List.getElem?_set_self (by rw [h.lenV]; exact hm)] at g1
      simp only [Option.some.injEq] at g1
      subst g1
      rw [List.getElem?_append_right (by rw [h.lenS]; exact Nat.le_refl _), h.lenS, Nat.sub_self] at g2
      simp at g2
      subst g2
      exact ⟨hs, own_set (own_low o gl) (by omega)⟩
    · rw [List.getElem?_set_ne (Ne.symm hjm)] at g1
      have hj : j < m := by
        have := (List.getElem?_eq_some_iff.1 g2).1
        simp [h.lenS] at this
        omega
      rw [List.getElem?_append_left (by rw [h.lenS]; exact hj)] at g2
      have := hy.each j v ys g1 g2
      exact ⟨this.1, own_set this.2 (by omega)⟩
  · have him : i ≠ m := by omega
    rw [List.getElem?_set_ne (Ne.symm him)] at g1
    by_cases hjm : j = m
    · subst hjm
      rw [List.getElem?_set_self (by rw [h.lenV]; exact hm)] at g2
      simp only [Option.some.injEq] at g2
      subst g2
      intro e'
      have l1 := (o.lt g e').1
      have hi : i < S.length := by rw [h.lenS]; exact hij
      have := (h.each i v S[i] g1 (List.getElem?_eq_getElem hi)).2.lt g e
      omega
    · rw [List.getElem?_set_ne (Ne.symm hjm)] at g2
      exact h.apart i j v v' hij (by omega) g1 g2 g e
/-- All three are laid. -/
theorem ModeS.all (h : ModeS w KB R G ks t lv nl ls nv nn ns 3 V S wx) : ∃ a b c s0 s1 s2, V = [a, b, c] ∧ stepsP s0 = true ∧ stepsP s1 = true ∧ stepsP s2 = true ∧
    wx.ownsRow (G + 1) 37 2 a s0.length (s0.flatMap StT.f) ∧ wx.ownsRow (G + 1) 37 2 b s1.length (s1.flatMap StT.f) ∧ wx.ownsRow (G + 1) 37 2 c s2.length (s2.flatMap StT.f) ∧
    (∀ g, a.ownBlock = some g → b.ownBlock ≠ some g) ∧ (∀ g, a.ownBlock = some g → c.ownBlock ≠ some g) ∧ (∀ g, b.ownBlock = some g → c.ownBlock ≠ some g) := by
  have e := h.each
  have p := h.apart
  have l1 := h.lenV
  have l2 := h.lenS
  match V, l1, S, l2 with
  | [a, b, c], _, [s0, s1, s2], _ =>
    have e0 := e 0 a s0 rfl rfl
    have e1 := e 1 b s1 rfl rfl
    have e2 := e 2 c s2 rfl rfl
    exact ⟨a, b, c, s0, s1, s2, rfl, e0.1, e1.1, e2.1, e0.2, e1.2, e2.2, p 0 1 a b (by decide) (by decide) rfl rfl, p 0 2 a c (by decide) (by decide) rfl rfl, p 1 2 b c (by decide) (by decide) rfl rfl⟩
end
end Go.Proofs.Ytamdmicdieeolaa
