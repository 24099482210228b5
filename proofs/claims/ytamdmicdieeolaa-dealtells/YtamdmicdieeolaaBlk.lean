/-
  A whole block of cells in memory, and what a call that turns one block leaves as it was.
-/
import Derived.Test.YtamdmicdieeolaaBase
import Derived.Deep.MidRow
namespace Go.Proofs.Ytamdmicdieeolaa
open Go.RowKit

/-- Block g holds these cells, all of them, none frozen. -/
def Blk (w : World) (g : Nat) (t : TypeId) (cs : List Value) : Prop := w.heap[g]? = some (.cells cs.toArray t (0, 0))

/-- All but block g is as it was; new blocks may be there. -/
structure Rest (g : Nat) (w w' : World) : Prop where
  os : w'.os = w.os
  tape : w'.tape = w.tape
  output : w'.output = w.output
  size : w.heap.size ≤ w'.heap.size
  block : ∀ k, k < w.heap.size → k ≠ g → w'.heap[k]? = w.heap[k]?

section
variable {w w' w'' a : World} {g : Nat} {t : TypeId} {cs : List Value}

theorem Blk.lt (h : Blk w g t cs) : g < w.heap.size := (Array.getElem?_eq_some_iff.1 h).1
theorem Blk.cell (h : Blk w g t cs) (i : Nat) (u : Value) (hi : cs[i]? = some u) : w.cell? ⟨g, i, none⟩ = some u := by
  unfold Blk at h
  simp [World.cell?, h, hi]
theorem Blk.frozen (h : Blk w g t cs) (i : Nat) : w.frozen? ⟨g, i, none⟩ = false := by
  unfold Blk at h
  simp [World.frozen?, h]
theorem Blk.set (h : Blk w g t cs) (i : Nat) (u : Value) : Blk (w.setCell ⟨g, i, none⟩ u) g t (cs.set i u) := by
  unfold Blk at *
  simp [World.setCell, Array.getElem?_modify, h]
theorem Blk.alloc (h : Blk w g t cs) (o : Obj) : Blk (w.alloc o) g t cs := by
  have := h.lt
  unfold Blk at *
  rw [Below.heap_alloc _ _ _ this]
  exact h
theorem Blk.set_other (h : Blk w g t cs) (b o : Nat) (hb : g ≠ b) (u : Value) : Blk (w.setCell ⟨b, o, none⟩ u) g t cs := by
  unfold Blk at *
  rw [Below.heap_setCell _ _ _ _ hb]
  exact h
theorem Blk.drews (h : Blk w g t cs) (n : Nat) : Blk (w.drewN n) g t cs := h
theorem Blk.drew (h : Blk w g t cs) : Blk w.drew g t cs := h
theorem Blk.fresh (w : World) (t : TypeId) (cs : List Value) : Blk (w.alloc (.cells cs.toArray t)) w.heap.size t cs := by
  unfold Blk
  show (w.heap.push _)[w.heap.size]? = _
  simp
theorem Blk.same (h : Blk w g t cs) (e : w'.heap[g]? = w.heap[g]?) : Blk w' g t cs := e.trans h
theorem Blk.then (h : Blk w g t cs) (k : Below w.heap.size w w') : Blk w' g t cs := h.same (k.block g h.lt)
theorem Blk.rest {b : Nat} (h : Blk w g t cs) (k : Rest b w w') (hb : g ≠ b) : Blk w' g t cs := h.same (k.block g h.lt hb)
theorem Blk.range (h : Blk w g t cs) (o : Nat) (xs : List Value) (hx : ∀ j v, xs[j]? = some v → cs[o + j]? = some v) : w.rangeAt g o xs := fun j v hv => h.cell _ _ (hx j v hv)
theorem Blk.there (h : Blk w g t cs) (o n : Nat) (hn : o + n ≤ cs.length) : w.there g o n := fun j hj =>
  ⟨by rw [h.cell (o + j) _ (List.getElem?_eq_getElem (by omega))]; rfl, h.frozen _⟩
/-- Cells laid one behind the other. -/
theorem Blk.setCells : ∀ (vs : List Value) (o : Nat) {w : World} {cs : List Value}, Blk w g t cs → o + vs.length ≤ cs.length → Blk (w.setCells g o vs) g t (cs.take o ++ vs ++ cs.drop (o + vs.length))
  | [], o, w, cs, h, _ => by simpa [World.setCells] using h
  | v :: r, o, w, cs, h, hl => by
    rw [World.setCells]
    have := Blk.setCells r (o + 1) (h.set o v) (by simp at hl ⊢; omega)
    have e : (cs.set o v).take (o + 1) ++ r ++ (cs.set o v).drop (o + 1 + r.length) = cs.take o ++ v :: r ++ cs.drop (o + (v :: r).length) := by
      have h1 : o < cs.length := by simp at hl; omega
      rw [List.take_succ_eq_append_getElem (by simpa using h1), List.drop_set_of_lt (by omega), List.take_set_of_le (by omega)]
      simp only [List.getElem_set_self, List.length_cons, List.append_assoc, List.cons_append, List.nil_append]
      rw [show o + 1 + r.length = o + (r.length + 1) by omega]
    rw [e] at this
    exact this

theorem Rest.refl (g : Nat) (w : World) : Rest g w w := ⟨rfl, rfl, rfl, Nat.le_refl _, fun _ _ _ => rfl⟩
theorem Rest.trans (h : Rest g w w') (k : Rest g w' w'') : Rest g w w'' :=
  ⟨k.os.trans h.os, k.tape.trans h.tape, k.output.trans h.output, Nat.le_trans h.size k.size, fun j hj hn => (k.block j (Nat.lt_of_lt_of_le hj h.size) hn).trans (h.block j hj hn)⟩
theorem Rest.of_below (k : Below w.heap.size w w') : Rest g w w' := ⟨k.os, k.tape, k.output, k.size, fun j hj _ => k.block j hj⟩
theorem Rest.then (h : Rest g w w') (k : Below w'.heap.size w' w'') : Rest g w w'' := h.trans (.of_below k)
theorem Rest.set (g o : Nat) (w : World) (u : Value) : Rest g w (w.setCell ⟨g, o, none⟩ u) := ⟨rfl, rfl, rfl, by simp, fun j _ hn => Below.heap_setCell _ _ _ _ hn⟩
theorem Rest.setCells (g : Nat) : ∀ (vs : List Value) (o : Nat) (w : World), Rest g w (w.setCells g o vs)
  | [], _, _ => Rest.refl _ _
  | _ :: r, o, w => (Rest.set g o w _).trans (Rest.setCells g r (o + 1) _)
/-- What lies below the block is as it was. -/
theorem Rest.below {B : Nat} (k : Rest g w w') (h : Below B a w) (hB : B ≤ g) (hs : B ≤ w.heap.size) : Below B a w' :=
  h.trans ⟨k.os, k.tape, k.output, k.size, fun j hj => k.block j (by omega) (by omega)⟩
/-- A call that turned a block of its own alone. -/
theorem Below.rest_new (h : Below w.heap.size w w') (k : Rest g w' w'') (hg : w.heap.size ≤ g) : Below w.heap.size w w'' := k.below h hg h.size
theorem rest_of_new {b : Nat} (h : Rest b w w') (k : Rest g w' w'') (hg : w.heap.size ≤ g) : Rest b w w'' :=
  ⟨k.os.trans h.os, k.tape.trans h.tape, k.output.trans h.output, Nat.le_trans h.size k.size, fun j hj hn => (k.block j (Nat.lt_of_lt_of_le hj h.size) (by omega)).trans (h.block j hj hn)⟩
end
end Go.Proofs.Ytamdmicdieeolaa
