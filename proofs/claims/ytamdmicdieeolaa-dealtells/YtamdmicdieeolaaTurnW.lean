/-
  A copy that owns its lists, turned so that it isn't right: what is known behind each way.
-/
import Derived.Test.YtamdmicdieeolaaTurnP
import Derived.Test.YtamdmicdieeolaaDealTurn
namespace Go.Proofs.Ytamdmicdieeolaa
open Go.RowKit

/-- Behind a way: all that was there before the copy is as it was; at H lies a deal that isn't right. -/
structure Aft (V : World) (H : Nat) (wx : World) : Prop where
  below : Below V.heap.size V wx
  bad : ∃ l n a b c d, d.ok = false ∧ DealIn wx l n a b c d ∧ Blk wx H 29 (d.t.f l n a b c)
/-- Ahead of a way: the copy lies at H, with its lists. -/
structure Bef (V : World) (H : Nat) (l n a b c : Value) (d : DealT) (W : World) : Prop where
  below : Below V.heap.size V W
  own : DealOwn V.heap.size W l n a b c d
  blk : Blk W H 29 (d.t.f l n a b c)
  le : V.heap.size ≤ H
section
variable {V W : World} {H : Nat} {l n a b c : Value} {d : DealT}
theorem own_not {B : Nat} {e : TypeId} {m k : Nat} {v : Value} {xs cs : List Value} (h : W.ownsRow B e m v k xs) (hb : Blk W H 29 cs) (he : e ≠ 29) : v.ownBlock ≠ some H := by
  intro hv
  rcases h.2 with ⟨rfl, _⟩ | ⟨j, cap, cur, rfl, _, h2, _⟩
  · simp [Value.ownBlock] at hv
  · simp only [Value.ownBlock, Option.some.injEq] at hv
    subst hv
    have := hb
    unfold Blk at this
    rw [h2] at this
    simp only [Option.some.injEq, Obj.cells.injEq] at this
    exact he this.2.1
/-- The deal's own block turned: its lists stay. -/
theorem Bef.lists (h : Bef V H l n a b c d W) {w' : World} (r : Rest H W w') : DealOwn V.heap.size w' l n a b c d :=
  ⟨own_rest h.own.ls r (own_not h.own.ls h.blk (by decide)), own_rest h.own.ns r (own_not h.own.ns h.blk (by decide)), own_rest h.own.s0 r (own_not h.own.s0 h.blk (by decide)), own_rest h.own.s1 r (own_not h.own.s1 h.blk (by decide)), own_rest h.own.s2 r (own_not h.own.s2 h.blk (by decide)), h.own.ab, h.own.ac, h.own.bc⟩
/-- One of its numbers. -/
theorem Bef.num (h : Bef V H l n a b c d W) {i : Nat} {u : Value} {t : NumT} (ht : t.f l n a b c = (d.t.f l n a b c).set i u) (hk : t.ok = false) : Aft V H (W.setCell ⟨H, i, none⟩ u) := by
  have o := (h.lists (Rest.set H i W u)).in
  refine ⟨h.below.setCell (show V.heap.size ≤ H from h.le) _, l, n, a, b, c, { d with t := t }, DealT.bad_num hk, ⟨o.ls, o.ns, o.s0, o.s1, o.s2⟩, ?_⟩
  show Blk _ H _ (t.f l n a b c)
  rw [ht]
  exact h.blk.set i u
/-- One of its lists of steps, taken away. -/
theorem Bef.nil (h : Bef V H l n a b c d W) : Aft V H (W.setCell ⟨H, 17, none⟩ (.slice none 0 0)) := by
  have o := (h.lists (Rest.set H 17 W (.slice none 0 0))).in
  refine ⟨h.below.setCell (show V.heap.size ≤ H from h.le) _, l, n, a, b, .slice none 0 0, { d with s2 := [] }, DealT.bad_modes (Or.inr (Or.inr rfl)), ⟨o.ls, o.ns, o.s0, o.s1, own_lies StT.len (World.ownsRow_nil _ 0 37 2) rfl⟩, ?_⟩
  exact h.blk.set 17 (.slice none 0 0)
/-- One of its loans. -/
theorem Bef.loan {g k cap j : Nat} {u : Value} (h : Bef V H (.slice (some ⟨g, 0, none⟩) k cap) n a b c d W) (hk : d.ls.length = k) (h0 : 0 < k) {x' : LnT} (hf : ∀ x, d.ls[0]? = some x → x'.f = x.f.set j u) (hj : j < 2) (hbad : DealT.ok { d with ls := d.ls.set 0 x' } = false) : Aft V H (W.setCell ⟨g, j, none⟩ u) := by
  obtain ⟨x, hx⟩ : ∃ x, d.ls[0]? = some x := ⟨_, List.getElem?_eq_getElem (by omega)⟩
  have o := h.own.turnL hk hx (hf x hx) hj
  rw [Nat.zero_mul, Nat.zero_add] at o
  have hg := (h.own.ls.lt g rfl).1
  refine ⟨h.below.setCell (show V.heap.size ≤ g from hg) _, _, n, a, b, c, _, hbad, o.in, ?_⟩
  exact h.blk.rest (Rest.set g j W u) (fun e => own_not h.own.ls h.blk (by decide) (by rw [← e]; rfl))
/-- One of its notes. -/
theorem Bef.note {g k cap j : Nat} {u : Value} (h : Bef V H l (.slice (some ⟨g, 0, none⟩) k cap) a b c d W) (hk : d.ns.length = k) (h0 : 0 < k) {x' : TrT} (hf : ∀ x, d.ns[0]? = some x → x'.f = x.f.set j u) (hj : j < 3) (hbad : DealT.ok { d with ns := d.ns.set 0 x' } = false) : Aft V H (W.setCell ⟨g, j, none⟩ u) := by
  obtain ⟨x, hx⟩ : ∃ x, d.ns[0]? = some x := ⟨_, List.getElem?_eq_getElem (by omega)⟩
  have o := h.own.turnN hk hx (hf x hx) hj
  rw [Nat.zero_mul, Nat.zero_add] at o
  have hg := (h.own.ns.lt g rfl).1
  refine ⟨h.below.setCell (show V.heap.size ≤ g from hg) _, l, _, a, b, c, _, hbad, o.in, ?_⟩
  exact h.blk.rest (Rest.set g j W u) (fun e => own_not h.own.ns h.blk (by decide) (by rw [← e]; rfl))
/-- The first step of the second list. -/
theorem Bef.step {g k cap : Nat} {kd : Int} (h : Bef V H l n a (.slice (some ⟨g, 0, none⟩) k cap) c d W) (hk : d.s1.length = k) (h0 : 0 < k) (hkd : 7 < kd) : Aft V H ((W.setCell ⟨g, 0, none⟩ (.int .i64 kd)).setCell ⟨g, 1, none⟩ (.int .i64 0)) := by
  obtain ⟨x, hx⟩ : ∃ x, d.s1[0]? = some x := ⟨_, List.getElem?_eq_getElem (by omega)⟩
  subst hk
  have hg := (h.own.s1.lt g rfl).1
  have T1 := own_turned (j := 0) (u := .int .i64 kd) (x' := ⟨kd, x.rk⟩) StT.len h.own.s1 hx rfl (by decide)
  have T2 := own_turned (j := 1) (u := .int .i64 0) (x := ⟨kd, x.rk⟩) (x' := ⟨kd, 0⟩) StT.len T1 (List.getElem?_set_self (by omega)) rfl (by decide)
  rw [List.set_set] at T2
  simp only [Nat.zero_mul, Nat.zero_add] at T2
  have r := Rest.set g 0 W (.int .i64 kd)
  have r2 := Rest.set g 1 (W.setCell ⟨g, 0, none⟩ (.int .i64 kd)) (.int .i64 0)
  have ha : a.ownBlock ≠ some g := fun e => h.own.ab g e rfl
  have hc : c.ownBlock ≠ some g := h.own.bc g rfl
  have hl : l.ownBlock ≠ some g := fun e => own_type h.own.ls h.own.s1 (by decide) g e rfl
  have hn : n.ownBlock ≠ some g := fun e => own_type h.own.ns h.own.s1 (by decide) g e rfl
  have q := fun {v' : Value} {base' : Nat} {e' : TypeId} {m' n' : Nat} {ys : List Value} (k : W.ownsRow base' e' m' v' n' ys) (he : v'.ownBlock ≠ some g) => own_rest (own_rest k r he) r2 he
  have hm : (⟨kd, 0⟩ : StT) ∈ d.s1.set 0 ⟨kd, 0⟩ := List.mem_iff_getElem?.2 ⟨0, List.getElem?_set_self h0⟩
  refine ⟨(h.below.setCell (show V.heap.size ≤ g from hg) _).setCell (show V.heap.size ≤ g from hg) _, l, n, a, _, c, { d with s1 := d.s1.set 0 ⟨kd, 0⟩ }, DealT.bad_modes (Or.inr (Or.inl (stepsP_bad hm (bad_kind (Or.inr hkd))))), ⟨own_lies LnT.len (q h.own.ls hl) rfl, own_lies TrT.len (q h.own.ns hn) rfl, own_lies StT.len (q h.own.s0 ha) rfl, own_lies StT.len T2 (by rw [List.length_set]), own_lies StT.len (q h.own.s2 hc) rfl⟩, ?_⟩
  have e : H ≠ g := fun e => own_not h.own.s1 h.blk (by decide) (by rw [e]; rfl)
  exact (h.blk.rest r e).rest r2 e
theorem Bef.then (h : Bef V H l n a b c d W) {w' : World} (k : Below W.heap.size W w') : Bef V H l n a b c d w' := ⟨below_then h.below k, h.own.then k, h.blk.then k, h.le⟩
/-- The first list of steps, with one of its own behind it. -/
theorem Bef.more (h : Bef V H l n a b c d W) {x : StT} (hx : x ∈ d.s0) {v : Value} {wx : World} (gr : W.grownBy wx a.ownBlock) {k : Nat} (ow : wx.ownsRow V.heap.size 37 2 v k ((d.s0 ++ [x]).flatMap StT.f)) (hk : k = d.s0.length + 1) : Blk wx H 29 (d.t.f l n a b c) ∧ Aft V H (wx.setCell ⟨H, 15, none⟩ v) := by
  have bx : Blk wx H 29 (d.t.f l n a b c) := h.blk.same (gr.block H h.blk.lt (fun e => own_not h.own.s0 h.blk (by decide) e.symm))
  have q : ∀ {v' : Value} {base' : Nat} {e' : TypeId} {m' n' : Nat} {ys : List Value}, W.ownsRow base' e' m' v' n' ys → (∀ g, v'.ownBlock = some g → a.ownBlock ≠ some g) → e' ≠ 29 → (wx.setCell ⟨H, 15, none⟩ v).ownsRow base' e' m' v' n' ys := by
    intro v' base' e' m' n' ys j hg he
    have j' := j.kept gr (by
      cases e : v'.ownBlock with
      | none => exact Or.inl rfl
      | some g => exact Or.inr (fun e2 => hg g e e2.symm))
    exact own_rest j' (Rest.set H 15 wx v) (own_not j' bx he)
  refine ⟨bx, (below_grown h.below gr (fun g e => (h.own.s0.lt g e).1)).setCell (show V.heap.size ≤ H from h.le) _, l, n, v, b, c, { d with s0 := d.s0 ++ [x] }, DealT.bad_modes (Or.inl (stepsP_twice hx)), ⟨own_lies LnT.len (q h.own.ls (fun g e => own_type h.own.ls h.own.s0 (by decide) g e) (by decide)) rfl, own_lies TrT.len (q h.own.ns (fun g e => own_type h.own.ns h.own.s0 (by decide) g e) (by decide)) rfl, own_lies StT.len (own_rest ow (Rest.set H 15 wx v) (own_not ow bx (by decide))) (by rw [hk, List.length_append]; rfl), own_lies StT.len (q h.own.s1 (fun g e e2 => h.own.ab g e2 e) (by decide)) rfl, own_lies StT.len (q h.own.s2 (fun g e e2 => h.own.ac g e2 e) (by decide)) rfl⟩, ?_⟩
  exact bx.set 15 v
/-- As the first list grows, in a region that draws: p: the new one is made; q: the list has grown; r: it is stored. -/
structure MoreG (V : World) (H : Nat) (l n a b c : Value) (d : DealT) (N : Nat) (x : StT) (p q r : Bool) (s v : Value) (wx : World) : Prop where
  pre : q = false → Bef V H l n a b c d wx ∧ (p = true → ∃ g, s = .slice (some ⟨g, 0, none⟩) 1 1 ∧ N ≤ g ∧ Blk wx g 37 x.f)
  mid : q = true → r = false → Blk wx H 29 (d.t.f l n a b c) ∧ Aft V H (wx.setCell ⟨H, 15, none⟩ v)
  fin : r = true → Aft V H wx
  ord : q = true → p = true
theorem MoreG.cells {N : Nat} {x : StT} {p q r : Bool} {s v : Value} {wx : World} (h : MoreG V H l n a b c d N x p q r s v wx) (hr : r = false) : Blk wx H 29 (d.t.f l n a b c) := by
  cases q with
  | false => exact (h.pre rfl).1.blk
  | true => exact (h.mid rfl hr).1
theorem MoreG.ahead {N : Nat} {x : StT} {p q r : Bool} {s v : Value} {wx : World} (h : MoreG V H l n a b c d N x p q r s v wx) (hp : p = false) : q = false := by
  cases q with
  | false => rfl
  | true => rw [hp] at h; cases h.ord rfl
end
end Go.Proofs.Ytamdmicdieeolaa
