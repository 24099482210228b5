/-
  Elements laid in a block of their own; a world as a letter behind a body's end; the second of two new blocks.
-/
import Derived.Test.YtamdmicdieeolaaBlk
import Derived.Test.YtamdmicdieeolaaLies
namespace Go.Proofs.Ytamdmicdieeolaa
open Go.RowKit

/-- Elements laid in a block of their own, as a list. -/
theorem lies_new {α : Type} {m : Nat} {f : α → List Value} (hl : ∀ x, (f x).length = m) (w : World) (xs : List α) (e : TypeId) (hx : xs.length ≤ maxLen) : Lies m f (w.alloc (.cells (xs.flatMap f).toArray e)) (.slice (some ⟨w.heap.size, 0, none⟩) xs.length xs.length) xs := by
  refine ⟨_, xs.length, rfl, Nat.le_refl _, hx, by simp, Or.inr ⟨_, 0, rfl, fun i x hi j u hj => ?_⟩⟩
  have hjm : j < m := by rw [← hl x]; exact (List.getElem?_eq_some_iff.1 hj).1
  have := (Blk.fresh w e (xs.flatMap f)).cell (i * m + j) u (by rw [flat_at hl xs i j x hi hjm]; exact hj)
  rw [Nat.zero_add]
  exact this
theorem Blk.fresh2 (w : World) (o : Obj) (t : TypeId) (cs : List Value) : Blk ((w.alloc o).alloc (.cells cs.toArray t)) (w.heap.size + 1) t cs := by
  have := Blk.fresh (w.alloc o) t cs
  simpa using this
/-- The world at a body's end, as a letter of which S is known. -/
theorem post_letter {P : Program} {f : Func} {Q : Ending → World → Prop} {e : Exit} {a : Act} {W : World} (S : World → Prop) (hS : S W) (h : ∀ wx, S wx → bodyPost P f Q e a wx) : bodyPost P f Q e a W := h W hS
/-- Nothing, as a source. -/
theorem src_nul {w : World} : Src w (.slice none 0 0) 0 [] := ⟨none, 0, rfl, fun _ => ⟨rfl, rfl⟩, fun a h => by simp at h⟩
end Go.Proofs.Ytamdmicdieeolaa
