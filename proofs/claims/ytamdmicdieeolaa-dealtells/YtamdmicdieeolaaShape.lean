/-
  Arguments of any shape as they come in: numbers, bools, texts, structs, arrays and slices of these, within each other.
-/
import Derived.Test.YtamdmicdieeolaaBase
import Derived.OpenShut
import Derived.Deep.SlicePairs
import Derived.SizedLaws
namespace Go.Proofs.Ytamdmicdieeolaa
open Go.RowKit Go.ChangeShapes Go.WideShapes

/-- The shape of an argument. A struct is its fields, one behind the other, each with its number of cells; an array is its elements so. -/
inductive Sh where
  | int (k : IntKind)
  | bool
  | str
  | slice (m : Nat) (s : Sh)
  | struct (p : Sh)
  | arr (p : Sh)
  | nil
  | cons (m : Nat) (s p : Sh)

def Sh.size : Sh → Nat
  | .cons m _ p => m + p.size
  | _ => 0

/-- Is the type of this shape? And do the fields from offset o on have it? -/
def Sh.fit (P : Program) : Sh → (TypeId → Bool) × (Nat → List Field → Bool)
  | .int k => (fun t => match P.underlying t with
    | some (.int k') => decide (k' = k)
    | _ => false, fun _ _ => false)
  | .bool => (fun t => match P.underlying t with
    | some .bool => true
    | _ => false, fun _ _ => false)
  | .str => (fun t => match P.underlying t with
    | some .string => true
    | _ => false, fun _ _ => false)
  | .slice m s => (fun t => match P.underlying t with
    | some (.slice e) => decide (P.cellsOf e = m) && decide (0 < m) && decide (0 < P.bytesOf e) && (Sh.fit P s).1 e
    | _ => false, fun _ _ => false)
  | .struct p => (fun t => match P.underlying t with
    | some (.struct fs) => decide (P.cellsOf t = p.size) && (Sh.fit P p).2 0 fs.toList
    | _ => false, fun _ _ => false)
  | .arr p => (fun t => match P.underlying t with
    | some (.array n e) => decide (P.cellsOf t = p.size) && (Sh.fit P p).2 0 ((List.range n).map fun i => { name := "", type := e, offset := i * P.cellsOf e, embedded := false, tag := "", pkgPath := "", byteOffset := 0 })
    | _ => false, fun _ _ => false)
  | .nil => (fun _ => false, fun _ fs => fs.isEmpty)
  | .cons m s p => (fun _ => false, fun o fs => match fs with
    | f :: r => decide (f.offset = o) && decide (P.cellsOf f.type = m) && (Sh.fit P s).1 f.type && (Sh.fit P p).2 (o + m) r
    | [] => false)

/-- What cells of this shape are. -/
def Holds (w : World) : Sh → List Value → Prop
  | .int k, cs => ∃ n, cs = [.int k n] ∧ (Lit.int k n).wf = true
  | .bool, cs => ∃ b, cs = [.bool b]
  | .str, cs => ∃ s, cs = [.string s] ∧ s.size ≤ maxLen
  | .slice m s, cs => ∃ a len cap, cs = [.slice a len cap] ∧ len ≤ cap ∧ cap ≤ maxLen ∧ (a = none → cap = 0) ∧ cap ≤ 4611686018427387904 ∧
      ∀ i, i < len → ∃ b off cs', a = some ⟨b, off, none⟩ ∧ cs'.length = m ∧ (∀ j u, cs'[j]? = some u → w.cell? ⟨b, off + i * m + j, none⟩ = some u) ∧ Holds w s cs'
  | .struct p, cs => Holds w p cs
  | .arr p, cs => Holds w p cs
  | .nil, cs => cs = []
  | .cons m s p, cs => ∃ c r, cs = c ++ r ∧ c.length = m ∧ Holds w s c ∧ Holds w p r

section
variable {H : Type} {enc : TypeId × Value → H} {P : Program} {w : World} {base : Nat} {held' : Bool}

theorem weightsAll_mem {H : Type} {P : Program} {e : TypeId} {n : Nat} : ∀ {ds : List (DataW H)} {d : DataW H}, d ∈ ds → n ∈ d.weights P e → n ∈ DataW.weightsAll P e ds
  | d0 :: r, d, hd, hn => by
    simp only [DataW.weightsAll, List.mem_append]
    rcases List.mem_cons.1 hd with rfl | hd
    · exact Or.inl hn
    · exact Or.inr (weightsAll_mem hd hn)
theorem holds_both : ∀ (s : Sh),
    (∀ (t : TypeId) (fuel : Nat) (cs : List Value) (x : DataW H × List MemPlace), (s.fit P).1 t = true → DataW.trod enc P w base (fun _ => true) held' fuel t cs = some x → (∀ n ∈ x.1.weights P t, n ≤ reachBytes) → Holds w s cs) ∧
    (∀ (o : Nat) (fs : List Field) (n : Nat) (cs : List Value), (s.fit P).2 o fs = true → cs.length = o + s.size →
      (∀ f ∈ fs, ∃ y, DataW.trod enc P w base (fun _ => true) held' n f.type ((cs.drop f.offset).take (P.cellsOf f.type)) = some y ∧ ∀ n ∈ y.1.weights P f.type, n ≤ reachBytes) → Holds w s (cs.drop o)) := by
  intro s
  induction s with
  | int k =>
    refine ⟨fun t fuel cs x hf h _ => ?_, fun o fs n cs hf => by simp [Sh.fit] at hf⟩
    simp only [Sh.fit] at hf
    split at hf
    · rename_i k' ht
      rw [of_decide_eq_true hf] at ht
      obtain ⟨n, e, _, hw⟩ := DataW.trod_int ht h
      exact ⟨n, e, hw⟩
    · cases hf
  | bool =>
    refine ⟨fun t fuel cs x hf h _ => ?_, fun o fs n cs hf => by simp [Sh.fit] at hf⟩
    simp only [Sh.fit] at hf
    split at hf
    · rename_i ht
      obtain ⟨b, e, _⟩ := DataW.trod_bool ht h
      exact ⟨b, e⟩
    · cases hf
  | str =>
    refine ⟨fun t fuel cs x hf h _ => ?_, fun o fs n cs hf => by simp [Sh.fit] at hf⟩
    simp only [Sh.fit] at hf
    split at hf
    · rename_i ht
      obtain ⟨b, e, _, hs⟩ := DataW.trod_string ht h
      exact ⟨b, e, hs⟩
    · cases hf
  | slice m s ih =>
    refine ⟨fun t fuel cs x hf h hwt => ?_, fun o fs n cs hf => by simp [Sh.fit] at hf⟩
    simp only [Sh.fit] at hf
    split at hf
    · rename_i e ht
      simp only [Bool.and_eq_true, decide_eq_true_eq] at hf
      obtain ⟨⟨⟨hc, hm⟩, hby⟩, hs⟩ := hf
      rcases Go.Deep.open_slice ht h with ⟨rfl, _⟩ | ⟨a, len, cap, m', n, D, Pl, rfl, _, hl, hcm, hmm, hx, hall⟩
      · exact ⟨none, 0, 0, rfl, Nat.le_refl _, Nat.zero_le _, fun _ => rfl, by omega, fun i hi => absurd hi (Nat.not_lt_zero _)⟩
      · simp only [if_true] at hmm
        subst hmm
        subst hx
        simp only [DataW.weights, ht] at hwt
        have hb := hwt _ (List.mem_cons_self)
        simp only [List.length_map, List.length_range] at hb
        have hcap : m' ≤ 4611686018427387904 := by
          have h1 : m' * 1 ≤ (len + (m' - len)) * P.bytesOf e := Nat.mul_le_mul (by omega) hby
          have h2 : reachBytes ≤ 4611686018427387904 := by decide
          omega
        refine ⟨some a, len, m', rfl, hl, hcm, fun h => by simp at h, hcap, fun i hi => ?_⟩
        obtain ⟨cs', h1, h2⟩ := hall i (Nat.lt_of_lt_of_le hi hl)
        have hwi : ∀ n ∈ (D i).weights P e, n ≤ reachBytes := fun n hn => hwt n (List.mem_cons_of_mem _ (List.mem_append_left _ (weightsAll_mem (List.mem_map.2 ⟨i, List.mem_range.2 hi, rfl⟩) hn)))
        rw [hc] at h1
        obtain ⟨_, hlen, hcell⟩ := World.cells?_some h1
        obtain ⟨b, off, spot⟩ := a
        obtain ⟨cs0, h3, _⟩ := hall 0 (Nat.lt_of_lt_of_le (Nat.lt_of_le_of_lt (Nat.zero_le _) hi) hl)
        rw [hc, Nat.zero_mul] at h3
        obtain ⟨_, hlen0, hcell0⟩ := World.cells?_some h3
        have h0 := hcell0 0 hm
        rw [List.getElem?_eq_getElem (by omega)] at h0
        have hspot : spot = none := by simpa [Addr.add] using World.cell?_spot h0
        subst hspot
        refine ⟨b, off, cs', rfl, hlen, fun j u hj => ?_, ih.1 e n cs' _ hs h2 hwi⟩
        have hj' : j < m := by
          rw [← hlen]
          rcases Nat.lt_or_ge j cs'.length with h | h
          · exact h
          · rw [List.getElem?_eq_none h] at hj; simp at hj
        have := hcell j hj'
        rw [hj, add_plain, add_plain] at this
        exact this
    · cases hf
  | struct p ih =>
    refine ⟨fun t fuel cs x hf h hwt => ?_, fun o fs n cs hf => by simp [Sh.fit] at hf⟩
    simp only [Sh.fit] at hf
    split at hf
    · rename_i fs ht
      simp only [Bool.and_eq_true, decide_eq_true_eq] at hf
      obtain ⟨hc, hfs⟩ := hf
      obtain ⟨xs, n, _, hx0, hl, hx, hall⟩ := DataW.trod_struct ht h
      subst hx0
      simp only [DataW.weights, ht] at hwt
      have := ih.2 0 fs.toList n cs hfs (by rw [hl, hc, Nat.zero_add]) (fun f hf => by
        obtain ⟨i, hi, rfl⟩ := List.getElem_of_mem hf
        have g := hall i fs.toList[i] (by simp at hi; simp [hi])
        have hi' : i < xs.length := by rw [hx]; simpa using hi
        rw [List.getElem?_eq_getElem hi'] at g
        exact ⟨_, g, fun k hk => hwt k (DataW.weights_mem_each (j := i) (t := fs.toList[i].type) (d := xs[i].1) (by rw [List.getElem?_map, List.getElem?_eq_getElem hi]; rfl) (by rw [List.getElem?_map, List.getElem?_eq_getElem hi']; rfl) k hk)⟩)
      rw [List.drop_zero] at this
      exact this
    · cases hf
  | arr p ih =>
    refine ⟨fun t fuel cs x hf h hwt => ?_, fun o fs n cs hf => by simp [Sh.fit] at hf⟩
    simp only [Sh.fit] at hf
    split at hf
    · rename_i k e ht
      simp only [Bool.and_eq_true, decide_eq_true_eq] at hf
      obtain ⟨hc, hfs⟩ := hf
      obtain ⟨xs, n, _, hx0, hl, hx, hall⟩ := DataW.trod_array ht h
      subst hx0
      simp only [DataW.weights, ht] at hwt
      have := ih.2 0 _ n cs hfs (by rw [hl, hc, Nat.zero_add]) (fun f hf => by
        obtain ⟨i, hi, rfl⟩ := List.mem_map.1 hf
        have hi := List.mem_range.1 hi
        have g := hall i hi
        have hi' : i < xs.length := by rw [hx]; exact hi
        rw [List.getElem?_eq_getElem hi'] at g
        exact ⟨_, g, fun k hk => hwt k (weightsAll_mem (List.mem_map.2 ⟨xs[i], List.getElem_mem _, rfl⟩) hk)⟩)
      rw [List.drop_zero] at this
      exact this
    · cases hf
  | nil =>
    refine ⟨fun t fuel cs x hf => by simp [Sh.fit] at hf, fun o fs n cs _ hl _ => ?_⟩
    simp only [Sh.size, Nat.add_zero] at hl
    simp [Holds, hl]
  | cons m s p ihs ihp =>
    refine ⟨fun t fuel cs x hf => by simp [Sh.fit] at hf, fun o fs n cs hf hl hall => ?_⟩
    match fs, hf with
    | f :: r, hf =>
      simp only [Sh.fit, Bool.and_eq_true, decide_eq_true_eq] at hf
      obtain ⟨⟨⟨ho, hc⟩, hs⟩, hr⟩ := hf
      simp only [Sh.size] at hl
      obtain ⟨y, hy, hyw⟩ := hall f (by simp)
      rw [ho, hc] at hy
      refine ⟨(cs.drop o).take m, cs.drop (o + m), ?_, ?_, ihs.1 f.type n _ _ hs hy hyw, ihp.2 (o + m) r n cs hr (by omega) (fun g hg => hall g (by simp [hg]))⟩
      · rw [← List.drop_drop, List.take_append_drop]
      · rw [List.length_take, List.length_drop]; omega

/-- An argument of this shape. -/
def Arg (w : World) : Sh → Value → Prop
  | .struct p, v => ∃ cs : List Value, v = .agg cs.toArray ∧ Holds w p cs
  | .arr p, v => ∃ cs : List Value, v = .agg cs.toArray ∧ Holds w p cs
  | s, v => Holds w s [v]

theorem arg_of {s : Sh} {t : TypeId} {v : Value} {r : Reach} {b0 : Nat} {d : DataW H} {ps : List MemPlace} (hf : (s.fit P).1 t = true) (hval : Value.okWide P w r b0 t v) (hd : DataW.Trod enc P w base (fun _ => true) held' t v d ps) (hwt : ∀ n ∈ d.weights P t, n ≤ reachBytes) : Arg w s v := by
  obtain ⟨fuel, h⟩ := hd
  have hh := (holds_both (enc := enc) (base := base) (held' := held') (w := w) s).1 t fuel _ _ hf h hwt
  cases s with
  | int k =>
    simp only [Sh.fit] at hf
    split at hf
    · rename_i k' ht
      obtain ⟨n, rfl⟩ := okWide_int ht hval
      exact hh
    · cases hf
  | bool =>
    simp only [Sh.fit] at hf
    split at hf
    · rename_i ht
      obtain ⟨n, rfl⟩ := okWide_bool ht hval
      exact hh
    · cases hf
  | str =>
    simp only [Sh.fit] at hf
    split at hf
    · rename_i ht
      obtain ⟨n, rfl⟩ := okWide_string ht hval
      exact hh
    · cases hf
  | slice m s =>
    simp only [Sh.fit] at hf
    split at hf
    · rename_i e ht
      obtain ⟨a, l, c, rfl⟩ := okWide_slice ht hval
      exact hh
    · cases hf
  | struct p =>
    simp only [Sh.fit] at hf
    split at hf
    · rename_i fs ht
      simp only [Value.okWide, ht] at hval
      obtain ⟨cs, rfl, _, _⟩ := hval
      exact ⟨cs.toList, rfl, hh⟩
    · cases hf
  | arr p =>
    simp only [Sh.fit] at hf
    split at hf
    · rename_i n e ht
      simp only [Value.okWide, ht] at hval
      obtain ⟨cs, rfl, _, _⟩ := hval
      exact ⟨cs.toList, rfl, hh⟩
    · cases hf
  | nil => simp [Sh.fit] at hf
  | cons m s p => simp [Sh.fit] at hf
end
end Go.Proofs.Ytamdmicdieeolaa
