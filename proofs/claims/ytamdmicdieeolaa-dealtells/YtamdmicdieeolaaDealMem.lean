/-
  Deals in memory: what a deal owns; what stays where one block is turned; the walk of cascadekeep.One.
-/
import Derived.Test.YtamdmicdieeolaaDeal5
namespace Go.Proofs.Ytamdmicdieeolaa
open Go.RowKit

/-- The world at hand amid a region, as a letter of which S is known. -/
theorem wpl_letter {P : Program} {ops l : _} {Q : Exit → Act → World → Prop} {a : Act} {W : World} (S : World → Prop) (hS : S W) (h : ∀ wx, S wx → wpList P ops Q l a wx) : wpList P ops Q l a W := h W hS
/-- The same, ahead of an append alone. -/
theorem wpl_append {P : Program} {ops rest : _} {o : Oper} {Q : Exit → Act → World → Prop} {a : Act} {W : World} (s x : Operand) (t : TypeId) (_ : o.op = .call { callee := .builtin .append, args := #[s, x], argTypes := #[t, t] }) (S : World → Prop) (hS : S W) (h : ∀ wx, S wx → wpList P ops Q (o :: rest) a wx) : wpList P ops Q (o :: rest) a W := h W hS
theorem own_slice {w : World} {base : Nat} {e : TypeId} {m : Nat} {v : Value} {n : Nat} {xs : List Value} (h : w.ownsRow base e m v n xs) : ∃ p k c, v = .slice p k c := by
  rcases h.2 with ⟨rfl, _⟩ | ⟨g, cap, cur, rfl, _⟩
  · exact ⟨_, _, _, rfl⟩
  · exact ⟨_, _, _, rfl⟩
/-- A block of its own as a source. -/
theorem blk_src {w : World} {g : Nat} {t : TypeId} {cs : List Value} (h : Blk w g t cs) (n : Nat) : Src w (.slice (some ⟨g, 0, none⟩) n n) n cs := by
  refine ⟨_, n, rfl, fun h => by simp at h, fun a ha j u hj => ?_⟩
  simp only [Option.some.injEq] at ha
  subst ha
  rw [Addr.add_lit]
  exact h.cell _ _ (by rw [Nat.zero_add]; exact hj)
theorem own_rest {w w' : World} {base g : Nat} {e : TypeId} {m : Nat} {v : Value} {n : Nat} {xs : List Value} (h : w.ownsRow base e m v n xs) (k : Rest g w w') (hg : v.ownBlock ≠ some g) : w'.ownsRow base e m v n xs :=
  own_same h fun j hj => k.block j (h.lt j hj).2 (fun e => hg (by rw [hj, e]))
theorem own_low {w : World} {base base' : Nat} {e : TypeId} {m : Nat} {v : Value} {n : Nat} {xs : List Value} (h : w.ownsRow base e m v n xs) (hb : base' ≤ base) : w.ownsRow base' e m v n xs := by
  refine ⟨h.1, ?_⟩
  rcases h.2 with h | ⟨g, cap, cur, rfl, h1, h2⟩
  · exact Or.inl h
  · exact Or.inr ⟨g, cap, cur, rfl, Nat.le_trans hb h1, h2⟩
/-- A deal that owns its lists: all in blocks from B on, each in one of its own. -/
structure DealOwn (B : Nat) (w : World) (l n a b c : Value) (d : DealT) : Prop where
  ls : w.ownsRow B 46 2 l d.ls.length (d.ls.flatMap LnT.f)
  ns : w.ownsRow B 32 3 n d.ns.length (d.ns.flatMap TrT.f)
  s0 : w.ownsRow B 37 2 a d.s0.length (d.s0.flatMap StT.f)
  s1 : w.ownsRow B 37 2 b d.s1.length (d.s1.flatMap StT.f)
  s2 : w.ownsRow B 37 2 c d.s2.length (d.s2.flatMap StT.f)
  ab : ∀ g, a.ownBlock = some g → b.ownBlock ≠ some g
  ac : ∀ g, a.ownBlock = some g → c.ownBlock ≠ some g
  bc : ∀ g, b.ownBlock = some g → c.ownBlock ≠ some g
theorem own_type {w : World} {base base' : Nat} {e e' : TypeId} {m m' : Nat} {v v' : Value} {n n' : Nat} {xs ys : List Value} (h : w.ownsRow base e m v n xs) (k : w.ownsRow base' e' m' v' n' ys) (he : e ≠ e') (g : Nat) (hg : v.ownBlock = some g) : v'.ownBlock ≠ some g := by
  intro hg'
  rcases h.2 with ⟨rfl, _⟩ | ⟨j, cap, cur, rfl, _, h2, _⟩
  · simp [Value.ownBlock] at hg
  · rcases k.2 with ⟨rfl, _⟩ | ⟨i, cap', cur', rfl, _, k2, _⟩
    · simp [Value.ownBlock] at hg'
    · simp only [Value.ownBlock, Option.some.injEq] at hg hg'
      subst hg
      subst hg'
      rw [h2] at k2
      simp only [Option.some.injEq, Obj.cells.injEq] at k2
      exact he k2.2.1
section
variable {B : Nat} {w w' : World} {l n a b c : Value} {d : DealT}
theorem DealOwn.in (h : DealOwn B w l n a b c d) : DealIn w l n a b c d :=
  ⟨own_lies LnT.len h.ls rfl, own_lies TrT.len h.ns rfl, own_lies StT.len h.s0 rfl, own_lies StT.len h.s1 rfl, own_lies StT.len h.s2 rfl⟩
theorem DealOwn.then (h : DealOwn B w l n a b c d) (k : Below w.heap.size w w') : DealOwn B w' l n a b c d :=
  ⟨own_below h.ls k, own_below h.ns k, own_below h.s0 k, own_below h.s1 k, own_below h.s2 k, h.ab, h.ac, h.bc⟩
theorem DealOwn.low {B' : Nat} (h : DealOwn B w l n a b c d) (k : B' ≤ B) : DealOwn B' w l n a b c d :=
  ⟨own_low h.ls k, own_low h.ns k, own_low h.s0 k, own_low h.s1 k, own_low h.s2 k, h.ab, h.ac, h.bc⟩
/-- A block below it is turned. -/
theorem own_above {base g : Nat} {e : TypeId} {m : Nat} {v : Value} {n : Nat} {xs : List Value} (h : w.ownsRow base e m v n xs) (k : Rest g w w') (hg : g < base) : w'.ownsRow base e m v n xs :=
  own_rest h k fun e => by have := (h.lt g e).1; omega
theorem DealOwn.above {g : Nat} (h : DealOwn B w l n a b c d) (k : Rest g w w') (hg : g < B) : DealOwn B w' l n a b c d :=
  ⟨own_above h.ls k hg, own_above h.ns k hg, own_above h.s0 k hg, own_above h.s1 k hg, own_above h.s2 k hg, h.ab, h.ac, h.bc⟩
end
theorem Try.info_ln : (Try.prog.info? 46).map (fun i => (i.zero, i.size, i.bytes)) = some (some (.agg #[.int .i64 0, .int .i64 0]), 2, 16) := by kernel_rfl
theorem Try.info_tr : (Try.prog.info? 32).map (fun i => (i.zero, i.size, i.bytes)) = some (some (.agg #[.int .i64 0, .int .i64 0, .int .i64 0]), 3, 24) := by kernel_rfl
theorem Try.info_st : (Try.prog.info? 37).map (fun i => (i.zero, i.size, i.bytes)) = some (some (.agg #[.int .i64 0, .int .i64 0]), 2, 16) := by kernel_rfl
theorem Try.size_deal : (Try.prog.info? 29).map (·.size) = some (18 : Nat) := by kernel_rfl
/-- A block of a whole row, owned. -/
theorem blk_own {w : World} {base g n : Nat} {e : TypeId} {m : Nat} {xs : List Value} (h : Blk w g e xs) (hb : base ≤ g) (hl : xs.length = n * m) (hn : n ≤ maxLen) : w.ownsRow base e m (.slice (some ⟨g, 0, none⟩) n n) n xs :=
  ⟨by simpa using hl, Or.inr ⟨g, n, xs.toArray, rfl, hb, h, Nat.le_refl _, hn, by simpa using hl, by rw [List.take_of_length_le (by simp [hl])]⟩⟩

/-- The deal of one loan and one note, of the note x. -/
def oneD (x : Int) : DealT := ⟨⟨2024, 1, 0, 0, 0, 0, 0, 0, 0, 0, 0, 0, 0⟩, [⟨1, 100⟩], [⟨0, x, 0⟩], [⟨3, 0⟩, ⟨7, 0⟩], [⟨3, 0⟩, ⟨7, 0⟩], [⟨3, 0⟩, ⟨7, 0⟩]⟩
def twoS : List Value := [.int .i64 3, .int .i64 0, .int .i64 7, .int .i64 0]
/-- Two new blocks and h: as One is under way. -/
structure OneW (W w : World) (L N h : Nat) : Prop where
  below : Below W.heap.size W w
  l : Blk w L 46 (LnT.f ⟨1, 100⟩)
  n : Blk w N 32 (TrT.f ⟨0, 100, 0⟩)
  h : Blk w h 37 twoS
theorem OneW.then {W w w' : World} {L N h : Nat} (k : OneW W w L N h) (j : Below w.heap.size w w') : OneW W w' L N h := ⟨below_then k.below j, k.l.then j, k.n.then j, k.h.then j⟩
theorem rest_grown {w w' : World} {row : Option Nat} {E : Nat} (h : w.grownBy w' row) (hr : row = some E) : Rest E w w' := ⟨h.os, h.tape, h.output, h.size, fun k hk hn => h.block k hk (by rw [hr]; simpa using hn)⟩
theorem OneW.rest {W w w' : World} {L N h E : Nat} (k : OneW W w L N h) (j : Rest E w w') (hE : W.heap.size ≤ E) (h1 : L ≠ E) (h2 : N ≠ E) (h3 : h ≠ E) : OneW W w' L N h :=
  ⟨j.below k.below hE k.below.size, k.l.rest j h1, k.n.rest j h2, k.h.rest j h3⟩
/-- An empty row of steps, just laid. -/
theorem own_empty {w : World} {E : Nat} {e : TypeId} {m : Nat} (h : Blk w E e []) : w.ownsRow E e m (.slice (some ⟨E, 0, none⟩) 0 0) 0 [] := blk_own h (Nat.le_refl _) (by simp) (by unfold maxLen; omega)
theorem Blk.fresh3 (w : World) (o o' : Obj) (t : TypeId) (cs : List Value) : Blk (((w.alloc o).alloc o').alloc (.cells cs.toArray t)) (w.heap.size + 1 + 1) t cs := by
  have := Blk.fresh ((w.alloc o).alloc o') t cs
  simpa using this
theorem own_cast {w : World} {base : Nat} {e : TypeId} {m : Nat} {v : Value} {n n' : Nat} {xs ys : List Value} (h : w.ownsRow base e m v n xs) (hn : n = n') (hx : xs = ys) : w.ownsRow base e m v n' ys := by
  subst hn hx
  exact h
/-- What is handed back lies in a block: a deal. -/
theorem ret_deal {f : Func} {p : Tmp} (hf : f.results = #[.cell p 29]) {a : Act} {w : World} {g : Nat} {cs : List Value} {Q : Ending → World → Prop} (hp : a.tmps.getD p undef = .pointer (some ⟨g, 0, none⟩)) (hd : a.defers = []) (hb : Blk w g 29 cs) (hl : cs.length = 18) (hQ : Q (.returned (.agg cs.toArray)) w) : bodyPost Try.prog f Q .ret a w :=
  bodyPost_ret (results_cell_row hf a.tmps w g 29 cs.toArray (0, 0) _ hp hb Try.underlying29 rfl (by rw [Try.size_deal]; simp [hl])) hd hQ
theorem own_one {w : World} {base : Nat} {e : TypeId} {m : Nat} {v : Value} {n : Nat} {xs : List Value} (h : w.ownsRow base e m v n xs) : v.oneCell' = true := by
  rcases h.2 with ⟨rfl, _⟩ | ⟨g, cap, cur, rfl, _⟩ <;> rfl
theorem NumT.one (t : NumT) {l n a b c : Value} (h0 : l.oneCell' = true) (h1 : n.oneCell' = true) (h2 : a.oneCell' = true) (h3 : b.oneCell' = true) (h4 : c.oneCell' = true) : ∀ u ∈ t.f l n a b c, u.oneCell' = true := by
  intro u hu
  simp only [NumT.f, List.mem_cons, List.not_mem_nil, or_false] at hu
  rcases hu with rfl | rfl | rfl | rfl | rfl | rfl | rfl | rfl | rfl | rfl | rfl | rfl | rfl | rfl | rfl | rfl | rfl | rfl <;> first | rfl | assumption
/-- A block laid anew, whole. -/
theorem Blk.over {w : World} {g : Nat} {t : TypeId} {cs vs : List Value} (h : Blk w g t cs) (hl : vs.length = cs.length) : Blk (w.setCells g 0 vs) g t vs := by
  have := h.setCells vs 0 (by omega)
  rw [List.take_zero, List.nil_append, Nat.zero_add, hl, List.drop_length, List.append_nil] at this
  exact this
def zeroD : List Value := NumT.f ⟨0, 0, 0, 0, 0, 0, 0, 0, 0, 0, 0, 0, 0⟩ (.slice none 0 0) (.slice none 0 0) (.slice none 0 0) (.slice none 0 0) (.slice none 0 0)
/-- A deal just handed out, stored in a block just made. -/
theorem wpl_box_deal {ops rest : _} {o : Oper} {Q : Exit → Act → World → Prop} {A : Act} {w : World} (x y : Operand) (ho : o.op = .store 29 x y) (hgd : o.guard = none) (t : NumT) (l n a b c : Value) (g : Nat) (hg : w.heap.size = g) (hx : A.eval x = .pointer (some ⟨g, 0, none⟩)) (hy : A.eval y = .agg (t.f l n a b c).toArray)
    (h0 : l.oneCell' = true) (h1 : n.oneCell' = true) (h2 : a.oneCell' = true) (h3 : b.oneCell' = true) (h4 : c.oneCell' = true)
    (h : ∀ wx, Blk wx g 29 (t.f l n a b c) → Below w.heap.size w wx → wpList Try.prog ops Q rest (A.put o.dst undef) wx) : wpList Try.prog ops Q (o :: rest) A (w.alloc (.cells zeroD.toArray 29)) := by
  subst hg
  have bz : Blk (w.alloc (.cells zeroD.toArray 29)) w.heap.size 29 zeroD := Blk.fresh _ _ _
  refine wpList_store_mid hgd 29 x y ho w.heap.size 0 (t.f l n a b c).toArray hx hy (bz.there 0 18 (by decide)) Try.size_deal (all_oneCell_toArray (NumT.one t h0 h1 h2 h3 h4)) ?_
  refine h _ (bz.over rfl) ?_
  exact (Rest.setCells w.heap.size _ 0 _).below (below_alloc (Below.refl _ _) _) (Nat.le_refl _) (by simp)
end Go.Proofs.Ytamdmicdieeolaa
