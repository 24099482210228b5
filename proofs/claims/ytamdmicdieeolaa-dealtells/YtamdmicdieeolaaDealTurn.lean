/-
  A deal that owns its lists, one cell of one element turned.
-/
import Derived.Test.YtamdmicdieeolaaDealMem
import Derived.Test.YtamdmicdieeolaaFlat
import Derived.Laws.OwnMore
import Derived.Deep.AppendLies
namespace Go.Proofs.Ytamdmicdieeolaa
open Go.RowKit

section
variable {α : Type} {f : α → List Value} {m : Nat} {w : World} {base g cap n : Nat} {e : TypeId} {xs : List α}
/-- One cell of one element of a row that the call owns, turned. -/
theorem own_turned (hl : ∀ x, (f x).length = m) {i j : Nat} {x x' : α} {u : Value} (h : w.ownsRow base e m (.slice (some ⟨g, 0, none⟩) n cap) n (xs.flatMap f)) (hx : xs[i]? = some x) (hf : f x' = (f x).set j u) (hj : j < m) :
    (w.setCell ⟨g, i * m + j, none⟩ u).ownsRow base e m (.slice (some ⟨g, 0, none⟩) n cap) n ((xs.set i x').flatMap f) := by
  have := (h.stored (i * m + j) u).1
  rw [flat_set hl hf hj xs i hx] at this
  exact this
/-- A cell of one element of a row that the call owns. -/
theorem own_cell (hl : ∀ x, (f x).length = m) {i j : Nat} {x : α} {u : Value} (h : w.ownsRow base e m (.slice (some ⟨g, 0, none⟩) n cap) n (xs.flatMap f)) (hn : xs.length = n) (hx : xs[i]? = some x) (hj : (f x)[j]? = some u) : w.cell? ⟨g, i * m + j, none⟩ = some u := by
  have hi : i < n := by rw [← hn]; exact (List.getElem?_eq_some_iff.1 hx).1
  have hj7 : j < m := by rw [← hl x]; exact (List.getElem?_eq_some_iff.1 hj).1
  rw [h.cellAt (i * m + j) (by have : (i + 1) * m ≤ n * m := Nat.mul_le_mul_right m hi; rw [Nat.succ_mul] at this; omega), flat_at hl xs i j x hx hj7]
  exact hj
end
/-- A row that is not empty is a block from its first cell on. -/
theorem own_form {w : World} {base : Nat} {e : TypeId} {m n : Nat} {v : Value} {xs : List Value} (h : w.ownsRow base e m v n xs) (hn : 0 < n) : ∃ g cap, v = .slice (some ⟨g, 0, none⟩) n cap ∧ base ≤ g ∧ g < w.heap.size ∧ n ≤ cap := by
  rcases h.2 with ⟨_, rfl⟩ | ⟨g, cap, cur, rfl, h1, h2, h3, _⟩
  · omega
  · exact ⟨g, cap, rfl, h1, (Array.getElem?_eq_some_iff.1 h2).1, h3⟩
section
variable {B : Nat} {w : World} {l n a b c : Value} {d : DealT} {g k cap j : Nat} {u : Value}
theorem DealOwn.turnL (h : DealOwn B w (.slice (some ⟨g, 0, none⟩) k cap) n a b c d) (hk : d.ls.length = k) {x x' : LnT} (hx : d.ls[0]? = some x) (hf : x'.f = x.f.set j u) (hj : j < 2) :
    DealOwn B (w.setCell ⟨g, 0 * 2 + j, none⟩ u) (.slice (some ⟨g, 0, none⟩) k cap) n a b c { d with ls := d.ls.set 0 x' } := by
  subst hk
  have r := Rest.set g (0 * 2 + j) w u
  have q := fun {v' : Value} {base' : Nat} {e' : TypeId} {m' n' : Nat} {ys : List Value} (k : w.ownsRow base' e' m' v' n' ys) (he : 46 ≠ e') => own_rest k r (own_type h.ls k he g rfl)
  refine ⟨?_, q h.ns (by decide), q h.s0 (by decide), q h.s1 (by decide), q h.s2 (by decide), h.ab, h.ac, h.bc⟩
  simp only [List.length_set]
  exact own_turned LnT.len h.ls hx hf hj
theorem DealOwn.turnN (h : DealOwn B w l (.slice (some ⟨g, 0, none⟩) k cap) a b c d) (hk : d.ns.length = k) {x x' : TrT} (hx : d.ns[0]? = some x) (hf : x'.f = x.f.set j u) (hj : j < 3) :
    DealOwn B (w.setCell ⟨g, 0 * 3 + j, none⟩ u) l (.slice (some ⟨g, 0, none⟩) k cap) a b c { d with ns := d.ns.set 0 x' } := by
  subst hk
  have r := Rest.set g (0 * 3 + j) w u
  have q := fun {v' : Value} {base' : Nat} {e' : TypeId} {m' n' : Nat} {ys : List Value} (k : w.ownsRow base' e' m' v' n' ys) (he : 32 ≠ e') => own_rest k r (own_type h.ns k he g rfl)
  refine ⟨q h.ls (by decide), ?_, q h.s0 (by decide), q h.s1 (by decide), q h.s2 (by decide), h.ab, h.ac, h.bc⟩
  simp only [List.length_set]
  exact own_turned TrT.len h.ns hx hf hj
end
end Go.Proofs.Ytamdmicdieeolaa
