/-
  Purses in memory: what is in the two cells of one, and what a call that turns one leaves as it was.
-/
import Derived.Test.YtpfoimjmnmlnkaaBase
namespace Go.Proofs.Ytpfoimjmnmlnkaa
open Go.RowKit

/-- At block b, from cell o on, lies a purse: so much went in, so much went out. -/
structure Pur (w : World) (b o : Nat) (i q : Int) : Prop where
  c0 : w.cell? ⟨b, o, none⟩ = some (.int .i64 i)
  c1 : w.cell? ⟨b, o + 1, none⟩ = some (.int .i64 q)
  f0 : w.frozen? ⟨b, o, none⟩ = false
  f1 : w.frozen? ⟨b, o + 1, none⟩ = false

/-- All but the two cells at b, o is as it was; new blocks may be there. -/
structure Chg (b o : Nat) (w w' : World) : Prop where
  os : w'.os = w.os
  tape : w'.tape = w.tape
  output : w'.output = w.output
  size : w.heap.size ≤ w'.heap.size
  block : ∀ k, k < w.heap.size → k ≠ b → w'.heap[k]? = w.heap[k]?
  cell : ∀ k, k ≠ o → k ≠ o + 1 → w'.cell? ⟨b, k, none⟩ = w.cell? ⟨b, k, none⟩
  frozen : ∀ k, w'.frozen? ⟨b, k, none⟩ = w.frozen? ⟨b, k, none⟩

theorem Pur.lt {w : World} {b o : Nat} {i q : Int} (h : Pur w b o i q) : b < w.heap.size := World.block_lt_of_cell? w ⟨b, o, none⟩ h.c0
theorem Pur.of_block {w w' : World} {b o : Nat} {i q : Int} (h : Pur w b o i q) (e : w'.heap[b]? = w.heap[b]?) : Pur w' b o i q :=
  ⟨(World.cell?_of_block (w := w) (a := ⟨b, o, none⟩) e).trans h.c0, (World.cell?_of_block (w := w) (a := ⟨b, o + 1, none⟩) e).trans h.c1,
   (World.frozen?_of_block (w := w) (a := ⟨b, o, none⟩) e).trans h.f0, (World.frozen?_of_block (w := w) (a := ⟨b, o + 1, none⟩) e).trans h.f1⟩
/-- New blocks leave it. -/
theorem Pur.then {w w' : World} {b o : Nat} {i q : Int} (h : Pur w b o i q) (k : Below w.heap.size w w') : Pur w' b o i q := h.of_block (k.block b h.lt)
/-- Another one that is turned leaves it. -/
theorem Pur.chg {w w' : World} {b o c p : Nat} {i q : Int} (h : Pur w b o i q) (k : Chg c p w w') (d : b ≠ c ∨ o + 1 < p ∨ p + 1 < o) : Pur w' b o i q := by
  by_cases e : b = c
  · subst e
    exact ⟨(k.cell o (by omega) (by omega)).trans h.c0, (k.cell (o + 1) (by omega) (by omega)).trans h.c1, (k.frozen o).trans h.f0, (k.frozen (o + 1)).trans h.f1⟩
  · exact h.of_block (k.block b h.lt e)

theorem Chg.of_below {b o : Nat} {w w' : World} (hb : b < w.heap.size) (k : Below w.heap.size w w') : Chg b o w w' :=
  ⟨k.os, k.tape, k.output, k.size, fun j hj _ => k.block j hj, fun _ _ _ => k.cell hb, fun _ => k.frozen hb⟩
theorem Chg.trans {b o : Nat} {w w' w'' : World} (h : Chg b o w w') (k : Chg b o w' w'') : Chg b o w w'' :=
  ⟨k.os.trans h.os, k.tape.trans h.tape, k.output.trans h.output, Nat.le_trans h.size k.size, fun j hj hn => (k.block j (Nat.lt_of_lt_of_le hj h.size) hn).trans (h.block j hj hn),
   fun j h1 h2 => (k.cell j h1 h2).trans (h.cell j h1 h2), fun j => (k.frozen j).trans (h.frozen j)⟩
theorem Chg.then {b o : Nat} {w w' w'' : World} (h : Chg b o w w') (hb : b < w.heap.size) (k : Below w'.heap.size w' w'') : Chg b o w w'' := h.trans (.of_below (Nat.lt_of_lt_of_le hb h.size) k)
/-- What lies below the purse's block is as it was. -/
theorem Chg.below {b o B : Nat} {a w w' : World} (k : Chg b o w w') (h : Below B a w) (hB : B ≤ b) (hs : B ≤ w.heap.size) : Below B a w' :=
  h.trans ⟨k.os, k.tape, k.output, k.size, fun j hj => k.block j (by omega) (by omega)⟩

theorem cell_set_other (w : World) (b k p : Nat) (u : Value) (h : k ≠ p) : (w.setCell ⟨b, p, none⟩ u).cell? ⟨b, k, none⟩ = w.cell? ⟨b, k, none⟩ := by
  simp [go_sem]
theorem Chg.set0 {b o : Nat} (w : World) (u : Value) : Chg b o w (w.setCell ⟨b, o, none⟩ u) :=
  ⟨rfl, rfl, rfl, by simp, fun j _ hn => Below.heap_setCell _ _ _ _ hn, fun k h1 _ => cell_set_other w b k o u h1, fun k => by simp [go_sem]⟩
theorem Chg.set1 {b o : Nat} (w : World) (u : Value) : Chg b o w (w.setCell ⟨b, o + 1, none⟩ u) :=
  ⟨rfl, rfl, rfl, by simp, fun j _ hn => Below.heap_setCell _ _ _ _ hn, fun k _ h2 => cell_set_other w b k (o + 1) u h2, fun k => by simp [go_sem]⟩
theorem Pur.set0 {w : World} {b o : Nat} {i q : Int} (h : Pur w b o i q) (j : Int) : Pur (w.setCell ⟨b, o, none⟩ (.int .i64 j)) b o j q := by
  have c0 := h.c0; have c1 := h.c1; have f0 := h.f0; have f1 := h.f1
  exact ⟨by simp [go_sem, c0], by simp [go_sem, c1], by simp [go_sem, f0], by simp [go_sem, f1]⟩
theorem Pur.set1 {w : World} {b o : Nat} {i q : Int} (h : Pur w b o i q) (j : Int) : Pur (w.setCell ⟨b, o + 1, none⟩ (.int .i64 j)) b o i j := by
  have c0 := h.c0; have c1 := h.c1; have f0 := h.f0; have f1 := h.f1
  exact ⟨by simp [go_sem, c0], by simp [go_sem, c1], by simp [go_sem, f0], by simp [go_sem, f1]⟩
/-- A purse in a block of its own. -/
theorem Pur.fresh (w : World) (i q : Int) (e : TypeId) : Pur (w.alloc (.cells #[.int .i64 i, .int .i64 q] e)) w.heap.size 0 i q :=
  ⟨by simp [go_sem], by simp [go_sem], by simp [go_sem], by simp [go_sem]⟩
end Go.Proofs.Ytpfoimjmnmlnkaa
