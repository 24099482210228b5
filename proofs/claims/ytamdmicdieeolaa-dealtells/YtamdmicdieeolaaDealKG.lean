/-
  Deals of numbers under way: what is known of the world as notes are laid one by one.
-/
import Derived.Test.YtamdmicdieeolaaDealKP
import Derived.Test.YtamdmicdieeolaaDealTurn
import Derived.Test.YtamdmicdieeolaaOrdY
namespace Go.Proofs.Ytamdmicdieeolaa
open Go.RowKit

def nilV : Value := .slice none 0 0
/-- As Deal is under way: the numbers in block KB, what is handed back in R, the deal in G. -/
structure KD (w X : World) (KB R G : Nat) (ks ds : List Value) : Prop where
  below : Below w.heap.size w X
  k : Blk X KB 43 ks
  r : Blk X R 29 zeroD
  d : Blk X G 29 ds
section
variable {w X X' : World} {KB R G : Nat} {ks ds : List Value}
theorem KD.then (h : KD w X KB R G ks ds) (j : Below X.heap.size X X') : KD w X' KB R G ks ds := ⟨below_then h.below j, h.k.then j, h.r.then j, h.d.then j⟩
theorem KD.set (h : KD w X KB R G ks ds) (i : Nat) (u : Value) (h0 : w.heap.size ≤ G) (h1 : KB < G) (h2 : R < G) : KD w (X.setCell ⟨G, i, none⟩ u) KB R G ks (ds.set i u) :=
  ⟨h.below.setCell h0 _, h.k.set_other _ _ (by omega) _, h.r.set_other _ _ (by omega) _, h.d.set _ _⟩
theorem KD.grown {row : Option Nat} (h : KD w X KB R G ks ds) (j : X.grownBy X' row) (h0 : w.heap.size ≤ G) (h1 : KB < G) (h2 : R < G) (hr : ∀ k, row = some k → G < k) : KD w X' KB R G ks ds :=
  ⟨below_grown h.below j (fun k e => by have := hr k e; omega), h.k.same (j.block KB h.k.lt (fun e => by have := hr KB e.symm; omega)), h.r.same (j.block R h.r.lt (fun e => by have := hr R e.symm; omega)), h.d.same (j.block G h.d.lt (fun e => by have := hr G e.symm; omega))⟩
theorem own_set {base i : Nat} {e : TypeId} {m : Nat} {v u : Value} {n : Nat} {xs : List Value} (h : X.ownsRow base e m v n xs) (hg : G < base) : (X.setCell ⟨G, i, none⟩ u).ownsRow base e m v n xs := own_above h (Rest.set G i X u) hg
end
/-- An append as an operation. -/
theorem wp_append_src {P : Program} {w : World} {o : Oper} {a : Act} {K : Act → World → Prop} {Q : Exit → Act → World → Prop} (hgd : o.guard = none) (s x : Operand) (t : TypeId)
    (ho : o.op = .call { callee := .builtin .append, args := #[s, x], argTypes := #[t, t] })
    (base : Nat) (e : TypeId) (i : TypeInfo) (z : Value) (size bytes : Nat) (ht : P.underlying t = some (.slice e)) (hi : P.info? e = some i) (hz : i.zero = some z)
    (hsize : i.size = size) (hby : i.bytes = bytes) (hzs : z.cells.size = size) (hsz : 0 < size)
    (v : Value) (n : Nat) (xs : List Value) (hs : a.eval s = v) (hown : w.ownsRow base e size v n xs)
    (y : Value) (m : Nat) (news : List Value) (hy : a.eval x = y) (hx : Src w y m news) (hl : news.length = m * size) (h1 : ∀ u ∈ news, u.oneCell' = true)
    (h63 : n + m ≤ maxLen) (hbytes : (n + m) * bytes ≤ 140737488355328) (hbase : base ≤ w.heap.size)
    (h : ∀ v' w', w'.ownsRow base e size v' (n + m) (xs ++ news) → w.grownBy w' v.ownBlock → (v'.ownBlock = v.ownBlock ∨ v'.ownBlock = some w.heap.size) → K (a.put o.dst v') w') : Oper.wp P o a w K Q := by
  have hw : Region.wanted o (yielded #[] a.tmps) = true := by simp [Region.wanted, hgd]
  have h0 := step_append_src (P := P) (w := w) (ops := #[]) (o := o) (a := a) (K := K) (Q := Q) (E := True) hw s x t ho base e i z size bytes ht hi hz hsize hby hzs hsz v n xs hs hown y m news hy hx hl h1 h63 hbytes hbase h
  rw [if_pos hw] at h0
  exact h0
/-- A slice's value stored in a cell. -/
theorem wp_store_slice {P : Program} {op : Oper} {a : Act} {w : World} {K : Act → World → Prop} {Q : Exit → Act → World → Prop} (ty : TypeId) (x y : Operand) (ho : op.op = .store ty x y) (b o : Nat) (v u : Value) (hx : a.eval x = .pointer (some ⟨b, o, none⟩)) (hy : a.eval y = v)
    (hi : (P.info? ty).map (·.size) = some 1) (hv : ∃ p n c, v = .slice p n c) (hc : w.cell? ⟨b, o, none⟩ = some u) (hf : w.frozen? ⟨b, o, none⟩ = false) (h : K (a.put op.dst undef) (w.setCell ⟨b, o, none⟩ v)) : op.wp P a w K Q := by
  obtain ⟨p, n, c, rfl⟩ := hv
  unfold Oper.wp execOp
  simp only [ho, hx, hy]
  cases hq : P.info? ty with
  | none => simp [hq] at hi
  | some i =>
    have hs : i.size = 1 := by simpa [hq] using hi
    simp [go_sem, hc, hf, sizeOf, typeInfo, hq, hs]
    exact h
/-- Terms in a block of their own, just made. -/
def NewT (N : Nat) (x : TrT) (v : Value) (w : World) : Prop := ∃ g, v = .slice (some ⟨g, 0, none⟩) 1 1 ∧ N ≤ g ∧ Blk w g 32 x.f
/-- The deal's notes as they stand: dn in the deal, v the row. -/
structure NoteS (w : World) (KB R G : Nat) (ks : List Value) (t : NumT) (lv : Value) (nl : Nat) (ls : List Value) (dn v : Value) (n : Nat) (ys : List TrT) (wx : World) : Prop where
  kd : KD w wx KB R G ks (NumT.f t lv dn nilV nilV nilV)
  ol : wx.ownsRow (G + 1) 46 2 lv nl ls
  on : wx.ownsRow (G + 1) 32 3 v n (ys.flatMap TrT.f)
section
variable {w wx wy : World} {KB R G : Nat} {ks : List Value} {t : NumT} {lv dn v : Value} {nl n : Nat} {ls : List Value} {ys : List TrT}
theorem NoteS.then (h : NoteS w KB R G ks t lv nl ls dn v n ys wx) (b : Below wx.heap.size wx wy) : NoteS w KB R G ks t lv nl ls dn v n ys wy := ⟨h.kd.then b, own_below h.ol b, own_below h.on b⟩
/-- The row has grown. -/
theorem NoteS.grown (h : NoteS w KB R G ks t lv nl ls dn v n ys wx) (g : wx.grownBy wy v.ownBlock) {v' : Value} {ys' : List TrT} (o : wy.ownsRow (G + 1) 32 3 v' (n + 1) (ys'.flatMap TrT.f)) (h0 : w.heap.size ≤ G) (h1 : KB < G) (h2 : R < G) : NoteS w KB R G ks t lv nl ls dn v' (n + 1) ys' wy := by
  refine ⟨h.kd.grown g h0 h1 h2 (fun k e => by have := (h.on.lt k e).1; omega), h.ol.kept g ?_, o⟩
  cases hv : lv.ownBlock with
  | none => exact Or.inl rfl
  | some k => exact Or.inr (fun e => own_type h.ol h.on (by decide) k hv e.symm)
/-- The row's value stored in the deal. -/
theorem NoteS.store (h : NoteS w KB R G ks t lv nl ls dn v n ys wx) (h0 : w.heap.size ≤ G) (h1 : KB < G) (h2 : R < G) : NoteS w KB R G ks t lv nl ls v v n ys (wx.setCell ⟨G, 4, none⟩ v) :=
  ⟨h.kd.set 4 v h0 h1 h2, own_set h.ol (by omega), own_set h.on (by omega)⟩
end
/-- What is known on the way: a: terms are made; b: the row has grown; c: its value is stored. -/
structure NoteG (w : World) (KB R G : Nat) (ks : List Value) (t : NumT) (lv : Value) (nl : Nat) (ls : List Value) (nv : Value) (n : Nat) (ys : List TrT) (x : TrT) (a b c : Bool) (s v : Value) (wx : World) : Prop where
  k : Blk wx KB 43 ks
  below : Below w.heap.size w wx
  pre : b = false → NoteS w KB R G ks t lv nl ls nv nv n ys wx ∧ (a = true → NewT (G + 1) x s wx)
  mid : b = true → c = false → NoteS w KB R G ks t lv nl ls nv v (n + 1) (ys ++ [x]) wx
  fin : c = true → NoteS w KB R G ks t lv nl ls v v (n + 1) (ys ++ [x]) wx
end Go.Proofs.Ytamdmicdieeolaa
