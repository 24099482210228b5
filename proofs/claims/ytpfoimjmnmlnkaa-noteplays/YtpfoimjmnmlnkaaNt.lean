/-
  Notes in memory: the seven cells of one, and what a call that turns one leaves as it was.
-/
import Derived.Test.YtpfoimjmnmlnkaaPur
namespace Go.Proofs.Ytpfoimjmnmlnkaa
open Go.RowKit

/-- A note as a value. -/
def noteV (rk og rt i q s d : Int) : Value := .agg #[.int .i64 rk, .int .i64 og, .int .i64 rt, .int .i64 i, .int .i64 q, .int .i64 s, .int .i64 d]

/-- At block b, from cell o on, lies a note. -/
structure Nt (w : World) (b o : Nat) (rk og rt i q s d : Int) : Prop where
  c0 : w.cell? ⟨b, o, none⟩ = some (.int .i64 rk)
  c1 : w.cell? ⟨b, o + 1, none⟩ = some (.int .i64 og)
  c2 : w.cell? ⟨b, o + 2, none⟩ = some (.int .i64 rt)
  c3 : w.cell? ⟨b, o + 3, none⟩ = some (.int .i64 i)
  c4 : w.cell? ⟨b, o + 3 + 1, none⟩ = some (.int .i64 q)
  c5 : w.cell? ⟨b, o + 5, none⟩ = some (.int .i64 s)
  c6 : w.cell? ⟨b, o + 6, none⟩ = some (.int .i64 d)
  fz : ∀ k, k < 7 → w.frozen? ⟨b, o + k, none⟩ = false

/-- All but the seven cells at b, o is as it was; new blocks may be there. -/
structure Chn (b o : Nat) (w w' : World) : Prop where
  os : w'.os = w.os
  tape : w'.tape = w.tape
  output : w'.output = w.output
  size : w.heap.size ≤ w'.heap.size
  block : ∀ k, k < w.heap.size → k ≠ b → w'.heap[k]? = w.heap[k]?
  cell : ∀ k, k < o ∨ o + 7 ≤ k → w'.cell? ⟨b, k, none⟩ = w.cell? ⟨b, k, none⟩
  frozen : ∀ k, w'.frozen? ⟨b, k, none⟩ = w.frozen? ⟨b, k, none⟩

section
variable {w w' w'' a : World} {b o c p B : Nat} {rk og rt i q s d j : Int}

theorem Nt.lt (h : Nt w b o rk og rt i q s d) : b < w.heap.size := World.block_lt_of_cell? w ⟨b, o, none⟩ h.c0
theorem Nt.of_block (h : Nt w b o rk og rt i q s d) (e : w'.heap[b]? = w.heap[b]?) : Nt w' b o rk og rt i q s d :=
  ⟨(World.cell?_of_block (w := w) (a := ⟨b, o, none⟩) e).trans h.c0, (World.cell?_of_block (w := w) (a := ⟨b, o + 1, none⟩) e).trans h.c1,
   (World.cell?_of_block (w := w) (a := ⟨b, o + 2, none⟩) e).trans h.c2, (World.cell?_of_block (w := w) (a := ⟨b, o + 3, none⟩) e).trans h.c3,
   (World.cell?_of_block (w := w) (a := ⟨b, o + 3 + 1, none⟩) e).trans h.c4, (World.cell?_of_block (w := w) (a := ⟨b, o + 5, none⟩) e).trans h.c5,
   (World.cell?_of_block (w := w) (a := ⟨b, o + 6, none⟩) e).trans h.c6, fun k hk => (World.frozen?_of_block (w := w) (a := ⟨b, o + k, none⟩) e).trans (h.fz k hk)⟩
theorem Nt.then (h : Nt w b o rk og rt i q s d) (k : Below w.heap.size w w') : Nt w' b o rk og rt i q s d := h.of_block (k.block b h.lt)
theorem Nt.chn (h : Nt w b o rk og rt i q s d) (k : Chn c p w w') (e : b ≠ c ∨ o + 7 ≤ p ∨ p + 7 ≤ o) : Nt w' b o rk og rt i q s d := by
  by_cases e' : b = c
  · subst e'
    exact ⟨(k.cell _ (by omega)).trans h.c0, (k.cell _ (by omega)).trans h.c1, (k.cell _ (by omega)).trans h.c2, (k.cell _ (by omega)).trans h.c3, (k.cell _ (by omega)).trans h.c4,
      (k.cell _ (by omega)).trans h.c5, (k.cell _ (by omega)).trans h.c6, fun j hj => (k.frozen _).trans (h.fz j hj)⟩
  · exact h.of_block (k.block b h.lt e')
/-- Its purse. -/
theorem Nt.pur (h : Nt w b o rk og rt i q s d) : Pur w b (o + 3) i q := ⟨h.c3, h.c4, h.fz 3 (by omega), h.fz 4 (by omega)⟩
/-- Its purse was turned. -/
theorem Nt.purse {i' q' : Int} (h : Nt w b o rk og rt i q s d) (k : Chg b (o + 3) w w') (p : Pur w' b (o + 3) i' q') : Nt w' b o rk og rt i' q' s d :=
  ⟨(k.cell _ (by omega) (by omega)).trans h.c0, (k.cell _ (by omega) (by omega)).trans h.c1, (k.cell _ (by omega) (by omega)).trans h.c2, p.c0, p.c1,
    (k.cell _ (by omega) (by omega)).trans h.c5, (k.cell _ (by omega) (by omega)).trans h.c6, fun j hj => (k.frozen _).trans (h.fz j hj)⟩

theorem Chn.of_below (hb : b < w.heap.size) (k : Below w.heap.size w w') : Chn b o w w' :=
  ⟨k.os, k.tape, k.output, k.size, fun j hj _ => k.block j hj, fun _ _ => k.cell hb, fun _ => k.frozen hb⟩
theorem Chn.of_chg (k : Chg b (o + 3) w w') : Chn b o w w' :=
  ⟨k.os, k.tape, k.output, k.size, k.block, fun j hj => k.cell j (by omega) (by omega), k.frozen⟩
theorem Chn.trans (h : Chn b o w w') (k : Chn b o w' w'') : Chn b o w w'' :=
  ⟨k.os.trans h.os, k.tape.trans h.tape, k.output.trans h.output, Nat.le_trans h.size k.size, fun j hj hn => (k.block j (Nat.lt_of_lt_of_le hj h.size) hn).trans (h.block j hj hn),
   fun j h1 => (k.cell j h1).trans (h.cell j h1), fun j => (k.frozen j).trans (h.frozen j)⟩
theorem Chn.then (h : Chn b o w w') (hb : b < w.heap.size) (k : Below w'.heap.size w' w'') : Chn b o w w'' := h.trans (.of_below (Nat.lt_of_lt_of_le hb h.size) k)
/-- What lies below the note's block is as it was. -/
theorem Chn.below (k : Chn b o w w') (h : Below B a w) (hB : B ≤ b) (hs : B ≤ w.heap.size) : Below B a w' :=
  h.trans ⟨k.os, k.tape, k.output, k.size, fun j hj => k.block j (by omega) (by omega)⟩
theorem Chn.far {e : Nat} {u : Value} (k : Chn b o w w') (h : w.cell? ⟨c, e, none⟩ = some u) (n : c ≠ b) : w'.cell? ⟨c, e, none⟩ = some u :=
  (World.cell?_of_block (w := w) (a := ⟨c, e, none⟩) (k.block c (World.block_lt_of_cell? w ⟨c, e, none⟩ h) n)).trans h
theorem Chn.set (k : Nat) (hk : k < 7) (u : Value) : Chn b o w (w.setCell ⟨b, o + k, none⟩ u) :=
  ⟨rfl, rfl, rfl, by simp, fun j _ hn => Below.heap_setCell _ _ _ _ hn, fun j hj => cell_set_other w b j (o + k) u (by omega), fun j => by simp [go_sem]⟩
theorem Nt.setS (h : Nt w b o rk og rt i q s d) (j : Int) : Nt (w.setCell ⟨b, o + 5, none⟩ (.int .i64 j)) b o rk og rt i q j d := by
  have c0 := h.c0; have c1 := h.c1; have c2 := h.c2; have c3 := h.c3; have c4 := h.c4; have c5 := h.c5; have c6 := h.c6; have fz := h.fz
  exact ⟨by simp [go_sem, c0], by simp [go_sem, c1], by simp [go_sem, c2], by simp [go_sem, c3], by simpa [go_sem] using c4, by simp [go_sem, c5], by simp [go_sem, c6], fun k hk => by simpa [go_sem] using fz k hk⟩
theorem Nt.setD (h : Nt w b o rk og rt i q s d) (j : Int) : Nt (w.setCell ⟨b, o + 6, none⟩ (.int .i64 j)) b o rk og rt i q s j := by
  have c0 := h.c0; have c1 := h.c1; have c2 := h.c2; have c3 := h.c3; have c4 := h.c4; have c5 := h.c5; have c6 := h.c6; have fz := h.fz
  exact ⟨by simp [go_sem, c0], by simp [go_sem, c1], by simp [go_sem, c2], by simp [go_sem, c3], by simpa [go_sem] using c4, by simp [go_sem, c5], by simp [go_sem, c6], fun k hk => by simpa [go_sem] using fz k hk⟩
end

/-- A note in a block of its own. -/
theorem Nt.fresh (w : World) (rk og rt i q s d : Int) (e : TypeId) : Nt (w.alloc (.cells #[.int .i64 rk, .int .i64 og, .int .i64 rt, .int .i64 i, .int .i64 q, .int .i64 s, .int .i64 d] e)) w.heap.size 0 rk og rt i q s d :=
  ⟨by simp [go_sem], by simp [go_sem], by simp [go_sem], by simp [go_sem], by simp [go_sem], by simp [go_sem], by simp [go_sem], fun k hk => by simp [go_sem]⟩
end Go.Proofs.Ytpfoimjmnmlnkaa
