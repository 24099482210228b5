/-
  The law of OrdX, where each step is told besides that its operation hasn't come up yet.
-/
import Derived.Test.YtamdmicdieeolaaOrd
namespace Go.Proofs.Ytamdmicdieeolaa
open Go.RowKit

section
variable {P : Program} {ops : Array Oper} {Q : Exit → Act → World → Prop} {md : Region.Mode}

/-- Does j wait for i? -/
def waitsY (md : Region.Mode) (ops : Array Oper) (j i : Nat) : Bool :=
  match ops[j]? with
  | some o => o.after.any fun e => Region.binds md e && e.on == i
  | none => false
/-- What the way behind operation i is handed. -/
def AfterY (F : Nat → Value → Prop) (G : (Nat → Bool) → (Nat → Value) → World → Prop) (act : (Nat → Value) → Act) (i : Nat) (dst : Option Tmp) (x : Nat → Value) (D : Nat → Bool) (a' : Act) (w' : World) : Prop :=
  ∃ v, a' = (act x).put dst v ∧ F i v ∧ G (fun j => D j || j == i) (fun j => if j = i then v else x j) w'
theorem afterY_mk {F : Nat → Value → Prop} {G : (Nat → Bool) → (Nat → Value) → World → Prop} {act : (Nat → Value) → Act} {i : Nat} {dst : Option Tmp} {x : Nat → Value} {D : Nat → Bool} {a' : Act} {w' : World} (v : Value) (h1 : a' = (act x).put dst v) (h2 : F i v) (h3 : G (fun j => D j || j == i) (fun j => if j = i then v else x j) w') : AfterY F G act i dst x D a' w' := ⟨v, h1, h2, h3⟩
def StepsY (P : Program) (ops : Array Oper) (Q : Exit → Act → World → Prop) (md : Region.Mode) (F : Nat → Value → Prop) (G : (Nat → Bool) → (Nat → Value) → World → Prop) (act : (Nat → Value) → Act) (rs : List Nat) : Prop :=
  ∀ i ∈ rs, ∃ o, ops[i]? = some o ∧ ∀ (x : Nat → Value) (w : World) (D : Nat → Bool), G D x w → (∀ k, waitsY md ops i k = true → D k = true ∧ F k (x k)) → (∀ j, waitsY md ops j i = true → D j = false) → D i = false →
    ∀ K : Act → World → Prop, Shut (∀ a' w', AfterY F G act i o.dst x D a' w' → K a' w') → if Region.wanted o (yielded ops (act x).tmps) = true then Oper.wp P o (act x) w K Q else K ((act x).put o.dst undef) w
theorem StepsY.nil {F : Nat → Value → Prop} {G : (Nat → Bool) → (Nat → Value) → World → Prop} {act : (Nat → Value) → Act} : StepsY P ops Q md F G act [] := fun _ h => by cases h
theorem StepsY.cons {F : Nat → Value → Prop} {G : (Nat → Bool) → (Nat → Value) → World → Prop} {act : (Nat → Value) → Act} {i : Nat} {o : Oper} {rs : List Nat} (dst : Option Tmp) (ho : ops[i]? = some o) (hd : o.dst = dst)
    (h : ∀ (x : Nat → Value) (w : World) (D : Nat → Bool), G D x w → (∀ k, waitsY md ops i k = true → D k = true ∧ F k (x k)) → (∀ j, waitsY md ops j i = true → D j = false) → D i = false → ∀ K : Act → World → Prop, Shut (∀ a' w', AfterY F G act i dst x D a' w' → K a' w') → if Region.wanted o (yielded ops (act x).tmps) = true then Oper.wp P o (act x) w K Q else K ((act x).put o.dst undef) w)
    (hs : StepsY P ops Q md F G act rs) : StepsY P ops Q md F G act (i :: rs) := fun j hj => by
  subst hd
  rcases List.mem_cons.1 hj with rfl | hj
  · exact ⟨o, ho, h⟩
  · exact hs j hj

/-- How things stand on the way. -/
structure InvY (md : Region.Mode) (ops : Array Oper) (F : Nat → Value → Prop) (G : (Nat → Bool) → (Nat → Value) → World → Prop) (fuel : Nat) (L : Array Bool) (x : Nat → Value) (w : World) : Prop where
  size : L.size = ops.size
  closed : ∀ j o, L.getD j false = true → ops[j]? = some o → ∀ e ∈ o.after, Region.binds md e = true → L.getD e.on false = true
  count : L.toList.count false ≤ fuel
  facts : ∀ i, L.getD i false = true → F i (x i)
  g : G (fun j => L.getD j false) x w

theorem wpAny_y {l : List Nat} {slot : Nat → Tmp} {F : Nat → Value → Prop} {G : (Nat → Bool) → (Nat → Value) → World → Prop} {a0 : Act} (hdup : l.Nodup) (hslot : ∀ i ∈ l, ∀ k ∈ l, slot i = slot k → i = k) (hd : ∀ i o, ops[i]? = some o → o.dst = if i ∈ l then some (slot i) else none) (ht : topoF md ops = true)
    (hst : StepsY P ops Q md F G (fun x => acts a0 slot x l) (List.range ops.size))
    (hend : ∀ x w, (∀ i, i < ops.size → F i (x i)) → G (fun j => decide (j < ops.size)) x w → Q .normal (acts a0 slot x l) w) :
    ∀ (fuel : Nat) (L : Array Bool) (x : Nat → Value) (w : World), InvY md ops F G fuel L x w → wpAny P md ops Q fuel L (acts a0 slot x l) w := by
  have done : ∀ (fuel : Nat) (L : Array Bool) (x : Nat → Value) (w : World), InvY md ops F G fuel L x w → (∀ i, i < ops.size → L.getD i false = true) → Q .normal (acts a0 slot x l) w ∧ Region.ready md ops L = [] := by
    intro fuel L x w hI hall
    refine ⟨hend x w (fun i hi => hI.facts i (hall i hi)) ?_, ?_⟩
    · have e : (fun j => decide (j < ops.size)) = fun j => L.getD j false := by
        funext j
        by_cases h : j < ops.size
        · rw [hall j h]; simp [h]
        · have : ¬ j < L.size := by have := hI.size; omega
          simp [h, this]
      rw [e]
      exact hI.g
    · refine List.eq_nil_iff_forall_not_mem.2 fun j hj => ?_
      obtain ⟨hun, o, ho, _⟩ := mem_ready.1 hj
      have hjs : j < ops.size := (Array.getElem?_eq_some_iff.1 ho).1
      have h1 := hall j hjs
      have h2 : j < L.size := by have := hI.size; omega
      simp [h2] at h1 hun
      rw [h1] at hun
      cases hun
  intro fuel
  induction fuel with
  | zero =>
    intro L x w hI
    have hall : ∀ i, i < ops.size → L.getD i false = true := fun i hi => by
      have hcc := hI.count
      have hs := hI.size
      have : false ∉ L.toList := List.count_eq_zero.1 (by omega)
      have hi' : i < L.size := by omega
      simp [hi']
      cases h : L[i] with
      | true => rfl
      | false => exact absurd (h ▸ Array.mem_toList_iff.2 (Array.getElem_mem hi')) this
    obtain ⟨h1, h2⟩ := done 0 L x w hI hall
    exact ⟨h2, h1⟩
  | succ fuel ih =>
    intro L x w hI
    by_cases hall : ∀ i, i < ops.size → L.getD i false = true
    · obtain ⟨h1, h2⟩ := done _ L x w hI hall
      exact ⟨fun _ => h1, by rw [h2]; simp⟩
    refine ⟨fun h0 => ?_, fun i hi => ?_⟩
    · refine absurd h0 ?_
      simp only [Classical.not_forall] at hall
      obtain ⟨i, hi, hL⟩ := hall
      have his : i < L.size := by have := hI.size; omega
      exact topoF_ready ht (i + 1) i (by omega) hi (by simpa [his] using hL)
    · obtain ⟨hun, o, ho, ha⟩ := mem_ready.1 hi
      have hin : i < ops.size := (Array.getElem?_eq_some_iff.1 ho).1
      obtain ⟨o', ho', hs⟩ := hst i (List.mem_range.2 hin)
      rw [ho] at ho'
      injection ho' with ho'
      subst ho'
      have his : i < L.size := by have := hI.size; omega
      have hLi : L[i] = false := by simpa [his] using hun
      have hLi2 : L.getD i false = false := by simpa [his] using hLi
      refine wpOp_step ho fun K hK => hs x w (fun j => L.getD j false) hI.g (fun k hk => ?_) (fun j hj => ?_) hLi2 K fun a' w' hA => ?_
      · unfold waitsY at hk
        rw [ho] at hk
        simp only at hk
        rw [Array.any_eq_true'] at hk
        obtain ⟨e, he, hk⟩ := hk
        simp only [Bool.and_eq_true, beq_iff_eq] at hk
        obtain ⟨hb, rfl⟩ := hk
        exact ⟨ha e he hb, hI.facts _ (ha e he hb)⟩
      · show L.getD j false = false
        cases h : L.getD j false with
        | false => rfl
        | true =>
          unfold waitsY at hj
          split at hj
          · rename_i oj hoj
            rw [Array.any_eq_true'] at hj
            obtain ⟨e, he, hj⟩ := hj
            simp only [Bool.and_eq_true, beq_iff_eq] at hj
            obtain ⟨hb, rfl⟩ := hj
            have := hI.closed j oj h hoj e he hb
            rw [hLi2] at this
            cases this
          · cases hj
      · obtain ⟨v, rfl, hF, hg⟩ := hA
        apply hK
        have hset : ∀ j, j ≠ i → (L.setIfInBounds i true).getD j false = L.getD j false := fun j hj => getD_set_ne false (Ne.symm hj)
        have hact : (acts a0 slot x l).put o.dst v = acts a0 slot (fun j => if j = i then v else x j) l := by
          rw [hd i o ho]
          by_cases hil : i ∈ l
          · rw [if_pos hil]
            exact acts_set l hil hdup hslot
          · rw [if_neg hil]
            exact acts_same l (fun j hj => by rw [if_neg (fun e : j = i => hil (e ▸ hj))])
        rw [hact]
        refine ih _ _ _ ⟨by simpa using hI.size, fun j o1 h1 h2 e he hb => ?_, ?_, fun k h1 => ?_, ?_⟩
        · apply getD_set_true
          by_cases hji : j = i
          · subst hji
            rw [ho] at h2
            injection h2 with h2
            subst h2
            exact ha e he hb
          · rw [hset j hji] at h1
            exact hI.closed j o1 h1 h2 e he hb
        · have hcc := hI.count
          have h5 : L.toList[i]'(by simpa using his) = false := by simpa using hLi
          rw [Array.toList_setIfInBounds, List.count_set (by simpa using his), h5]
          simp only [beq_self_eq_true, if_true, show (true == false) = false from rfl, Bool.false_eq_true, if_false]
          omega
        · by_cases hki : k = i
          · subst hki
            simp only [if_true]
            exact hF
          · simp only [hki, if_false]
            rw [hset k hki] at h1
            exact hI.facts k h1
        · have e : (fun j => (L.setIfInBounds i true).getD j false) = fun j => L.getD j false || j == i := by
            funext j
            by_cases hji : j = i
            · subst hji
              simp [his]
            · rw [hset j hji]
              simp [hji]
          rw [e]
          exact hg

/-- What the law asks of the operations alone. -/
def ordYok (md : Region.Mode) (ops : Array Oper) (slots : List Tmp) (l : List Nat) : Bool :=
  decide l.Nodup && l.all (fun i => l.all fun k => !(slots.getD i 0 == slots.getD k 0) || i == k) && topoF md ops && (List.range ops.size).all fun i => match ops[i]? with
    | some o => o.dst == if i ∈ l then some (slots.getD i 0) else none
    | none => true
/-- THE LAW. l: the operations that yield (all but stores); fs: what each slot holds; G: what is known of the world, by which have come up. -/
theorem wp_region_y {id : Nat} {a : Act} {w : World} (slots : List Tmp) (l : List Nat) (fs : List (Value → Prop)) (G : (Nat → Bool) → (Nat → Value) → World → Prop) (all : List Nat) (hp : P.follows .mixedOrders = true) (hb : ordYok .any ops slots l = true) (hall : List.range ops.size = all)
    (h0 : ∀ x, G (fun _ => false) x w.drew)
    (hst : StepsY P ops Q .any (fun i v => fs.getD i (fun _ => True) v) G (fun x => acts a (fun i => slots.getD i 0) x l) all)
    (hend : ∀ x wx, (∀ i, i < ops.size → fs.getD i (fun _ => True) (x i)) → G (fun j => decide (j < ops.size)) x wx → Q .normal (acts a (fun i => slots.getD i 0) x l) wx) :
    (Code.region id ops true).wp P Q a w := by
  subst hall
  simp only [ordYok, Bool.and_eq_true, decide_eq_true_eq, List.all_eq_true, Bool.or_eq_true, Bool.not_eq_true', beq_eq_false_iff_ne, beq_iff_eq, List.mem_range] at hb
  obtain ⟨⟨⟨h1, h2⟩, h3⟩, h4⟩ := hb
  refine wp_region_any hp ?_
  have hno : ∀ j, (Array.replicate ops.size false).getD j false = false := fun j => by
    by_cases h : j < ops.size
    · simp [h]
    · simp [h]
  have := wpAny_y (a0 := a) (F := fun i v => fs.getD i (fun _ => True) v) (G := G) h1 (fun i hi k hk e => (h2 i hi k hk).resolve_left (fun h => h e)) (fun i o ho => by
    have h5 := h4 i (Array.getElem?_eq_some_iff.1 ho).1
    rw [ho] at h5
    simpa using h5) h3 hst hend ops.size (Array.replicate ops.size false) (fun i => a.tmps.getD (slots.getD i 0) undef) w.drew
    ⟨by simp, fun j _ hj _ => absurd hj (by rw [hno j]; simp), by simp, fun j hj => absurd hj (by rw [hno j]; simp), by
      have e : (fun j => (Array.replicate ops.size false).getD j false) = fun _ => false := funext hno
      rw [e]
      exact h0 _⟩
  rw [acts_own (slot := fun i => slots.getD i 0)] at this
  exact this
end
end Go.Proofs.Ytamdmicdieeolaa
