/-
  Two rows that grow beside each other: loans as they stand, and what is lost of each.
-/
import Derived.Test.YtoijgognbfifbaaPoolOf
namespace Go.Proofs.Ytoijgognbfifbaa
open Go.RowKit

theorem Try.info_int : (Try.prog.info? 3).map (fun i => (i.zero, i.size, i.bytes)) = some (some (.int .i64 0), 1, 8) := by kernel_rfl
theorem intF_len (x : Int) : (intF x).length = 1 := rfl
theorem intF_one (x : Int) : ∀ u ∈ intF x, u.oneCell' = true := by
  intro u hu
  simp only [intF, List.mem_cons, List.not_mem_nil, or_false] at hu
  subst hu
  rfl
/-- Two rows that grow beside each other: the loans as they stand, and what is lost of each. -/
structure TwoR (w wx : World) (v y : Value) (j i : Nat) (q : List LoanP) : Prop where
  below : Below w.heap.size w wx
  now : wx.ownsRow w.heap.size 25 2 v j (((q.take j).map LoanP.ln).flatMap LnT.f)
  lost : wx.ownsRow w.heap.size 3 1 y i (((q.take i).map LoanP.lost).flatMap intF)
  apart : ∀ g, v.ownBlock = some g → y.ownBlock ≠ some g
theorem TwoR.then {w wx wy : World} {v y : Value} {j i : Nat} {q : List LoanP} (h : TwoR w wx v y j i q) (k : Below wx.heap.size wx wy) : TwoR w wy v y j i q := ⟨below_then h.below k, own_below h.now k, own_below h.lost k, h.apart⟩
theorem take_map_next {α β : Type} {q : List α} {j : Nat} {o : α} (f : α → β) (h : q[j]? = some o) : (q.take (j + 1)).map f = (q.take j).map f ++ [f o] := by
  obtain ⟨hj, rfl⟩ := List.getElem?_eq_some_iff.1 h
  rw [List.take_succ_eq_append_getElem hj, List.map_append]
  rfl
theorem TwoR.now1 {w wx w2 : World} {v v' y : Value} {j i : Nat} {q : List LoanP} {o : LoanP} (h : TwoR w wx v y j i q) (ho : q[j]? = some o) (ow : w2.ownsRow w.heap.size 25 2 v' (j + 1) (((q.take j).map LoanP.ln).flatMap LnT.f ++ LnT.f o.ln)) (gr : wx.grownBy w2 v.ownBlock) (ob : v'.ownBlock = v.ownBlock ∨ v'.ownBlock = some wx.heap.size) : TwoR w w2 v' y (j + 1) i q := by
  refine ⟨below_grown h.below gr (fun k e => (h.now.lt k e).1), ?_, own_same h.lost fun g hg => gr.block g (h.lost.lt g hg).2 (fun e => h.apart g e.symm hg), fun g hg hy => ?_⟩
  · rw [take_map_next LoanP.ln ho]
    exact own_more _ ow
  · rcases ob with e | e
    · exact h.apart g (e ▸ hg) hy
    · rw [e] at hg
      injection hg with hg
      have := (h.lost.lt g hy).2
      omega
theorem TwoR.lost1 {w wx w2 : World} {v y y' : Value} {j i : Nat} {q : List LoanP} {o : LoanP} (h : TwoR w wx v y j i q) (ho : q[i]? = some o) (ow : w2.ownsRow w.heap.size 3 1 y' (i + 1) (((q.take i).map LoanP.lost).flatMap intF ++ intF o.lost)) (gr : wx.grownBy w2 y.ownBlock) (ob : y'.ownBlock = y.ownBlock ∨ y'.ownBlock = some wx.heap.size) : TwoR w w2 v y' j (i + 1) q := by
  refine ⟨below_grown h.below gr (fun k e => (h.lost.lt k e).1), own_same h.now fun g hg => gr.block g (h.now.lt g hg).2 (fun e => h.apart g hg e.symm), ?_, fun g hg hy => ?_⟩
  · rw [take_map_next LoanP.lost ho]
    exact own_more _ ow
  · rcases ob with e | e
    · exact h.apart g hg (e ▸ hy)
    · rw [e] at hy
      injection hy with hy
      have := (h.now.lt g hg).2
      omega
theorem TwoR.nil (w : World) (q : List LoanP) : TwoR w w (.slice none 0 0) (.slice none 0 0) 0 0 q := ⟨Below.refl _ _, World.ownsRow_nil _ _ _ _, World.ownsRow_nil _ _ _ _, fun g h => by simp [Value.ownBlock] at h⟩
theorem own_slice {w : World} {base m n : Nat} {e : TypeId} {v : Value} {xs : List Value} (h : w.ownsRow base e m v n xs) : ∃ a cap, v = .slice a n cap := by
  rcases own_shape h with rfl | ⟨cap, g, rfl⟩
  · rcases h.2 with ⟨_, rfl⟩ | ⟨g, cap, cur, e, _⟩
    · exact ⟨none, 0, rfl⟩
    · simp at e
  · exact ⟨_, _, rfl⟩
end Go.Proofs.Ytoijgognbfifbaa
