/-
  Memory: a source of an append, the append's law in a plain region and at a step of a region that draws its order; what a slice of numbers reads as.
-/
import Derived.Test.YtamdmicdieeolaaCents
import Derived.Maps.AppendAt
import Derived.Laws.AppendOwnNone
import Derived.Deep.RegionHeld3
import Derived.OpenShut
namespace Go.Proofs.Ytamdmicdieeolaa
open Go.RowKit

/-- x is a slice of m elements that holds the cells news. -/
def Src (w : World) (x : Value) (m : Nat) (news : List Value) : Prop :=
  ∃ ad c, x = .slice ad m c ∧ (ad = none → m = 0 ∧ c = 0) ∧ ∀ a, ad = some a → ∀ j u, news[j]? = some u → w.cell? (a.add j) = some u

section
variable {P : Program} {w : World}

theorem run_append_src (base : Nat) (t ty e : TypeId) (i : TypeInfo) (z : Value) (size bytes : Nat) (ht : P.underlying t = some (.slice e)) (hi : P.info? e = some i) (hz : i.zero = some z)
    (hsize : i.size = size) (hby : i.bytes = bytes) (hzs : z.cells.size = size) (hsz : 0 < size)
    (v : Value) (n : Nat) (xs : List Value) (hown : w.ownsRow base e size v n xs)
    (x : Value) (m : Nat) (news : List Value) (hx : Src w x m news) (hl : news.length = m * size) (h1 : ∀ u ∈ news, u.oneCell' = true)
    (h63 : n + m ≤ maxLen) (hbytes : (n + m) * bytes ≤ 140737488355328) (hbase : base ≤ w.heap.size) :
    ∃ v' w', (Builtin.append_ #[t, t] ty #[v, x]).run P w = .ok v' w' ∧ w'.ownsRow base e size v' (n + m) (xs ++ news) ∧ w.grownBy w' v.ownBlock ∧
      (v'.ownBlock = v.ownBlock ∨ v'.ownBlock = some w.heap.size) := by
  obtain ⟨ad, c, rfl, hnone, hc⟩ := hx
  cases ad with
  | some a =>
    obtain ⟨v', w', r1, r2, r3, _, r5⟩ := run_append_own_at (P := P) w base t ty e i z size bytes ht hi hz hsize hby hzs hsz v n xs hown a m c news hl (hc a rfl) h1 h63 hbytes hbase
    exact ⟨v', w', r1, r2, r3, r5⟩
  | none =>
    obtain ⟨rfl, rfl⟩ := hnone rfl
    have : news = [] := List.eq_nil_of_length_eq_zero (by simpa using hl)
    subst this
    have hr := run_append_owned_none (P := P) (w := w) base t ty e i size ht hi v n xs hown
    refine ⟨v, w, hr, ?_, ⟨rfl, rfl, rfl, Nat.le_refl _, fun _ _ _ => rfl⟩, Or.inl rfl⟩
    simpa using hown

/-- An append in a plain region. -/
theorem wpList_append_src {ops : Array Oper} {rest : List Oper} {o : Oper} {a : Act} {Q : Exit → Act → World → Prop} (hgd : o.guard = none) (s x : Operand) (t : TypeId)
    (ho : o.op = .call { callee := .builtin .append, args := #[s, x], argTypes := #[t, t] })
    (base : Nat) (e : TypeId) (i : TypeInfo) (z : Value) (size bytes : Nat) (ht : P.underlying t = some (.slice e)) (hi : P.info? e = some i) (hz : i.zero = some z)
    (hsize : i.size = size) (hby : i.bytes = bytes) (hzs : z.cells.size = size) (hsz : 0 < size)
    (v : Value) (n : Nat) (xs : List Value) (hs : a.eval s = v) (hown : w.ownsRow base e size v n xs)
    (y : Value) (m : Nat) (news : List Value) (hy : a.eval x = y) (hx : Src w y m news) (hl : news.length = m * size) (h1 : ∀ u ∈ news, u.oneCell' = true)
    (h63 : n + m ≤ maxLen) (hbytes : (n + m) * bytes ≤ 140737488355328) (hbase : base ≤ w.heap.size)
    (h : ∀ v' w', w'.ownsRow base e size v' (n + m) (xs ++ news) → w.grownBy w' v.ownBlock → (v'.ownBlock = v.ownBlock ∨ v'.ownBlock = some w.heap.size) → wpList P ops Q rest (a.put o.dst v') w') : wpList P ops Q (o :: rest) a w := by
  refine wpList_plain hgd fun K hK => ?_
  obtain ⟨v', w', hrun, r1, r2, r3⟩ := run_append_src (P := P) (w := w) base t o.type e i z size bytes ht hi hz hsize hby hzs hsz v n xs hown y m news hx hl h1 h63 hbytes hbase
  unfold Oper.wp
  simp [execOp, ho, resolve, invoke, builtin, hs, hy, hrun, Result.andThen]
  exact hK _ _ (h v' w' r1 r2 r3)

/-- An append as a step of a region that draws its order, guarded or not. -/
theorem step_append_src {ops : Array Oper} {o : Oper} {a : Act} {K : Act → World → Prop} {Q : Exit → Act → World → Prop} {E : Prop} (hw : Region.wanted o (yielded ops a.tmps) = true) (s x : Operand) (t : TypeId)
    (ho : o.op = .call { callee := .builtin .append, args := #[s, x], argTypes := #[t, t] })
    (base : Nat) (e : TypeId) (i : TypeInfo) (z : Value) (size bytes : Nat) (ht : P.underlying t = some (.slice e)) (hi : P.info? e = some i) (hz : i.zero = some z)
    (hsize : i.size = size) (hby : i.bytes = bytes) (hzs : z.cells.size = size) (hsz : 0 < size)
    (v : Value) (n : Nat) (xs : List Value) (hs : a.eval s = v) (hown : w.ownsRow base e size v n xs)
    (y : Value) (m : Nat) (news : List Value) (hy : a.eval x = y) (hx : Src w y m news) (hl : news.length = m * size) (h1 : ∀ u ∈ news, u.oneCell' = true)
    (h63 : n + m ≤ maxLen) (hbytes : (n + m) * bytes ≤ 140737488355328) (hbase : base ≤ w.heap.size)
    (h : ∀ v' w', w'.ownsRow base e size v' (n + m) (xs ++ news) → w.grownBy w' v.ownBlock → (v'.ownBlock = v.ownBlock ∨ v'.ownBlock = some w.heap.size) → K (a.put o.dst v') w') :
    if Region.wanted o (yielded ops a.tmps) = true then Oper.wp P o a w K Q else E := by
  rw [if_pos hw]
  obtain ⟨v', w', hrun, r1, r2, r3⟩ := run_append_src (P := P) (w := w) base t o.type e i z size bytes ht hi hz hsize hby hzs hsz v n xs hown y m news hx hl h1 h63 hbytes hbase
  unfold Oper.wp
  simp [execOp, ho, resolve, invoke, builtin, hs, hy, hrun, Result.andThen]
  exact h v' w' r1 r2 r3
end

theorem ints_oneCell' (zs : List Int) : ∀ u ∈ zs.map (Value.int .i64), u.oneCell' = true := by
  intro u hu
  obtain ⟨z, _, rfl⟩ := List.mem_map.1 hu
  rfl

/-- What the call owns reads as its numbers. -/
theorem own_reads {w : World} {base : Nat} {v : Value} {n : Nat} {zs : List Int} (h : w.ownsRow base 3 1 v n (zs.map (Value.int .i64))) : Reads w v zs := by
  have hlen : zs.length = n := by simpa using h.1
  rcases h.2 with ⟨rfl, rfl⟩ | ⟨g, cap, cur, rfl, _, _, hnc, hcm, _, _⟩
  · have : zs = [] := List.eq_nil_of_length_eq_zero hlen
    subst this
    exact ⟨none, 0, rfl, by simp, by simp, Or.inl rfl⟩
  · refine ⟨_, cap, by rw [hlen], by omega, by unfold maxLen at *; omega, Or.inr ⟨g, 0, rfl, ?_⟩⟩
    intro i hi
    have := h.cells (g := g) rfl i (.int .i64 (zs.getD i 0)) (by rw [List.getElem?_map, List.getElem?_eq_getElem hi]; simp [hi])
    rw [Addr.add_lit] at this
    simpa using this

theorem cell_block {w : World} {a : Addr} {v : Value} (h : w.cell? a = some v) : a.block < w.heap.size := World.block_lt_of_cell? w a h

/-- What was read is read as long as nothing below turns. -/
theorem Reads.below {w w' : World} {v : Value} {zs : List Int} (h : Reads w v zs) (hb : Below w.heap.size w w') : Reads w' v zs := by
  obtain ⟨a, cap, rfl, hcap, hm, hz⟩ := h
  refine ⟨a, cap, rfl, hcap, hm, ?_⟩
  rcases hz with h | ⟨b, off, rfl, hc⟩
  · exact Or.inl h
  · refine Or.inr ⟨b, off, rfl, fun i hi => ?_⟩
    have hci := hc i hi
    rw [hb.cell (p := ⟨b, off + i, none⟩) (cell_block hci)]
    exact hci

/-- What reads as numbers is a source of them. -/
theorem Reads.src {w : World} {v : Value} {zs : List Int} (h : Reads w v zs) (hn : ∀ c, v = .slice none zs.length c → c = 0) : Src w v zs.length (zs.map (Value.int .i64)) := by
  obtain ⟨a, cap, rfl, hcap, hm, hz⟩ := h
  rcases hz with rfl | ⟨b, off, rfl, hc⟩
  · refine ⟨a, cap, rfl, fun e => ⟨rfl, hn cap (by rw [e])⟩, fun _ _ j u hj => ?_⟩
    simp at hj
  · refine ⟨_, cap, rfl, fun e => by simp at e, fun a ha j u hj => ?_⟩
    simp only [Option.some.injEq] at ha
    subst ha
    have hj' : j < zs.length := by
      rcases Nat.lt_or_ge j zs.length with h | h
      · exact h
      · rw [List.getElem?_eq_none (by simpa using h)] at hj; simp at hj
    rw [List.getElem?_map, List.getElem?_eq_getElem hj'] at hj
    simp only [Option.map_some, Option.some.injEq] at hj
    subst hj
    have := hc j hj'
    rw [Addr.add_lit]
    simpa [hj'] using this

/-- A slice of integers that came in: nil, or a row of cap cells of which the first len are its elements. -/
def Row (k : IntKind) (w : World) (a : Option Addr) (len cap : Nat) (zs : List Int) : Prop :=
  (a = none ∧ len = 0 ∧ cap = 0 ∧ zs = []) ∨
  ∃ x, a = some x ∧ len ≤ cap ∧ cap ≤ maxLen ∧ zs.length = cap ∧ (∀ i, i < zs.length → w.cell? (x.add i) = some (.int k (zs.getD i 0))) ∧ ∀ n ∈ zs, (Lit.int k n).wf = true

/-- It is empty, or its elements are cells of one block. -/
theorem Row.parts {w : World} {a : Option Addr} {len cap : Nat} {zs : List Int} (h : Row .i64 w a len cap zs) :
    len = 0 ∨ ∃ b off, a = some ⟨b, off, none⟩ ∧ 0 < len ∧ len ≤ cap ∧ cap ≤ maxLen ∧ zs.length = cap ∧ ∀ i, i < cap → w.cell? ⟨b, off + i, none⟩ = some (.int .i64 (zs.getD i 0)) := by
  rcases h with ⟨_, h, _⟩ | ⟨x, rfl, hl, hm, hz, hc, _⟩
  · exact Or.inl h
  · rcases Nat.eq_zero_or_pos len with h0 | h0
    · exact Or.inl h0
    · obtain ⟨b, off, rfl, hc'⟩ := ints_at hc (by omega)
      exact Or.inr ⟨b, off, rfl, h0, hl, hm, hz, fun i hi => hc' i (by omega)⟩

/-- Each element is a cell. -/
theorem Row.cells {w : World} {a : Option Addr} {len cap : Nat} {zs : List Int} (h : Row .i64 w a len cap zs) :
    len ≤ cap ∧ cap ≤ maxLen ∧ len ≤ zs.length ∧ ∀ i, i < len → ∃ b off, a = some ⟨b, off, none⟩ ∧ w.cell? ⟨b, off + i, none⟩ = some (.int .i64 (zs.getD i 0)) := by
  rcases h.parts with h0 | ⟨b, off, rfl, h0, h1, h2, h3, h4⟩
  · subst h0
    rcases h with ⟨_, _, rfl, _⟩ | ⟨_, _, h1, h2, _⟩
    · exact ⟨by omega, by unfold maxLen; omega, by omega, fun i hi => by omega⟩
    · exact ⟨h1, h2, by omega, fun i hi => by omega⟩
  · exact ⟨h1, h2, by omega, fun i hi => ⟨b, off, rfl, h4 i (by omega)⟩⟩

theorem below_grown {a w w' : World} {row : Option Nat} (h : Below a.heap.size a w) (hg : w.grownBy w' row) (hr : ∀ k, row = some k → a.heap.size ≤ k) : Below a.heap.size a w' := h.grown hg h.size hr

/-- An append in which one number is laid ahead. -/
theorem below_append {a w w' : World} {o : Obj} {e : TypeId} {size : Nat} {v : Value} {n : Nat} {xs : List Value} (h : Below a.heap.size a w) (hown : w.ownsRow a.heap.size e size v n xs) (hg : (w.alloc o).grownBy w' v.ownBlock) : Below a.heap.size a w' :=
  (h.alloc h.size o).grown hg (by have := h.size; simp; omega) (fun k hk => (hown.lt k hk).1)

/-- The beginning of what is read. -/
theorem Reads.take {w : World} {a : Option Addr} {n cap : Nat} {zs : List Int} (h : Reads w (.slice a n cap) zs) (k : Nat) (hk : k ≤ n) : Reads w (.slice a k cap) (zs.take k) := by
  obtain ⟨a', cap', e, hcap, hm, hz⟩ := h
  simp only [Value.slice.injEq] at e
  obtain ⟨rfl, rfl, rfl⟩ := e
  refine ⟨a, cap, by simp [List.length_take, Nat.min_eq_left hk], by simp only [List.length_take]; omega, by simp only [List.length_take]; omega, ?_⟩
  rcases hz with rfl | ⟨b, off, rfl, hc⟩
  · exact Or.inl (by simp)
  · refine Or.inr ⟨b, off, rfl, fun i hi => ?_⟩
    simp only [List.length_take] at hi
    have := hc i (by omega)
    rw [this]
    simp only [List.getD_eq_getElem?_getD, List.getElem?_take]
    rw [if_pos (by omega)]

/-- The rest of what is read, from k on; where no room is left the address stays. -/
theorem Reads.drop {w : World} {b off n cap : Nat} {zs : List Int} (h : Reads w (.slice (some ⟨b, off, none⟩) n cap) zs) (k : Nat) (hk : k ≤ n) (A : Option Addr) (hA : A = if cap = k then some ⟨b, off, none⟩ else some ⟨b, off + k, none⟩) :
    Reads w (.slice A (n - k) (cap - k)) (zs.drop k) := by
  obtain ⟨a', cap', e, hcap, hm, hz⟩ := h
  simp only [Value.slice.injEq] at e
  obtain ⟨rfl, rfl, rfl⟩ := e
  refine ⟨A, cap - k, by simp [List.length_drop], by simp only [List.length_drop]; omega, by simp only [List.length_drop]; omega, ?_⟩
  by_cases hck : cap = k
  · left
    exact List.drop_eq_nil_of_le (by omega)
  · rw [if_neg hck] at hA
    subst hA
    rcases hz with rfl | ⟨b', off', e, hc⟩
    · exact Or.inl (by simp)
    · simp only [Option.some.injEq, Addr.mk.injEq] at e
      obtain ⟨rfl, rfl, _⟩ := e
      refine Or.inr ⟨b, off + k, rfl, fun i hi => ?_⟩
      simp only [List.length_drop] at hi
      have := hc (k + i) (by omega)
      rw [Nat.add_assoc, this]
      simp only [List.getD_eq_getElem?_getD, List.getElem?_drop]

theorem sumFrom_ok : ∀ (l : List Int) (s : Int), (∀ x ∈ l, 0 ≤ x) → s + l.sum ≤ 1152921504606846976 → sumFrom l s = some (s + l.sum)
  | [], s, _, _ => by simp [sumFrom]
  | n :: r, s, h, hs => by
    have hn := h n (by simp)
    have hr : 0 ≤ r.sum := by
      clear hs
      have h' : ∀ x ∈ r, 0 ≤ x := fun x hx => h x (by simp [hx])
      clear h
      induction r with
      | nil => simp
      | cons a r ih =>
        rw [List.sum_cons]
        have := h' a (by simp)
        have := ih (fun x hx => h' x (by simp [hx]))
        omega
    rw [List.sum_cons] at hs ⊢
    rw [sumFrom, if_neg (by omega), sumFrom_ok r (s + n) (fun x hx => h x (by simp [hx])) (by omega)]
    congr 1
    omega

theorem sum_range (B : Int) (hB : 0 ≤ B) : ∀ (l : List Int), (∀ x ∈ l, 0 ≤ x ∧ x ≤ B) → 0 ≤ l.sum ∧ l.sum ≤ l.length * B
  | [], _ => by simp
  | n :: r, h => by
    have hn := h n (by simp)
    have hr := sum_range B hB r (fun x hx => h x (by simp [hx]))
    rw [List.sum_cons, List.length_cons]
    have e : (((r.length + 1 : Nat) : Int)) * B = (r.length : Int) * B + B := by
      rw [Int.natCast_add, Int.add_mul]; simp
    rw [e]
    omega

theorem leastFrom_spec : ∀ (l : List Int) (m : Int), leastFrom l m ≤ m ∧ (∀ x ∈ l, leastFrom l m ≤ x) ∧ (leastFrom l m = m ∨ leastFrom l m ∈ l)
  | [], m => by simp [leastFrom]
  | n :: r, m => by
    obtain ⟨h1, h2, h3⟩ := leastFrom_spec r (min m n)
    simp only [leastFrom]
    refine ⟨by omega, ?_, ?_⟩
    · intro x hx
      rcases List.mem_cons.1 hx with rfl | hx
      · omega
      · exact h2 x hx
    · rcases h3 with h3 | h3
      · rcases Int.le_total m n with g | g
        · left; rw [h3]; omega
        · right; rw [h3, Int.min_eq_right g]; simp
      · right; exact List.mem_cons_of_mem _ h3

/-- The least of some is one of them, and none is less. -/
theorem leastL_spec (l : List Int) (h : l ≠ []) : leastL l ∈ l ∧ ∀ x ∈ l, leastL l ≤ x := by
  match l, h with
  | n :: r, _ =>
    obtain ⟨h1, h2, h3⟩ := leastFrom_spec r n
    simp only [leastL]
    refine ⟨?_, ?_⟩
    · rcases h3 with h3 | h3
      · rw [h3]; simp
      · exact List.mem_cons_of_mem _ h3
    · intro x hx
      rcases List.mem_cons.1 hx with rfl | hx
      · exact h1
      · exact h2 x hx

theorem leastL_same (l k : List Int) (hl : l ≠ []) (h : ∀ x, x ∈ l ↔ x ∈ k) : leastL l = leastL k := by
  have hk : k ≠ [] := by
    rintro rfl
    obtain ⟨a, _⟩ := leastL_spec l hl
    exact absurd ((h _).1 a) (by simp)
  obtain ⟨a1, a2⟩ := leastL_spec l hl
  obtain ⟨b1, b2⟩ := leastL_spec k hk
  have := a2 _ ((h _).2 b1)
  have := b2 _ ((h _).1 a1)
  omega

end Go.Proofs.Ytamdmicdieeolaa
