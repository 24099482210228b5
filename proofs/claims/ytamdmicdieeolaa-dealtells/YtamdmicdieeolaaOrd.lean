/-
  A region that draws its order, by what each operation's slot holds once it has come up: one step for each operation, whatever the order.
-/
import Derived.Test.YtamdmicdieeolaaBase
namespace Go.Proofs.Ytamdmicdieeolaa
open Go.RowKit

/-- Many slots, laid. -/
def puts (a : Act) : List (Tmp × Value) → Act
  | [] => a
  | (d, v) :: r => puts (a.put (some d) v) r
theorem puts_put : ∀ (l : List (Tmp × Value)) (a : Act) (d : Tmp) (v : Value), (∀ e ∈ l, e.1 ≠ d) → puts (a.put (some d) v) l = (puts a l).put (some d) v
  | [], _, _, _, _ => rfl
  | (e, u) :: r, a, d, v, h => by
    show puts ((a.put (some d) v).put (some e) u) r = _
    have hed : e ≠ d := h (e, u) (by simp)
    have : (a.put (some d) v).put (some e) u = (a.put (some e) u).put (some d) v := by
      unfold Act.put
      simp only
      rw [Array.setIfInBounds_comm _ _ (Ne.symm hed)]
    rw [this, puts_put r _ d v (fun x hx => h x (by simp [hx]))]
    rfl
theorem put_twice (a : Act) (d : Tmp) (u v : Value) : (a.put (some d) u).put (some d) v = a.put (some d) v := by
  unfold Act.put
  simp
theorem put_own (a : Act) (d : Tmp) : a.put (some d) (a.tmps.getD d undef) = a := by
  unfold Act.put
  obtain ⟨t, f⟩ := a
  simp only [Act.mk.injEq, and_true]
  apply Array.ext (by simp)
  intro i h1 h2
  simp only [Array.getElem_setIfInBounds h2]
  split
  · rename_i e; subst e; simp [h2]
  · rfl

/-- The slots of the operations l, holding what x says. -/
def acts (a : Act) (slot : Nat → Tmp) (x : Nat → Value) : List Nat → Act
  | [] => a
  | i :: r => (acts a slot x r).put (some (slot i)) (x i)
theorem acts_other {a : Act} {slot : Nat → Tmp} {x : Nat → Value} {d : Tmp} {v : Value} : ∀ l : List Nat, (∀ i ∈ l, slot i ≠ d) → acts (a.put (some d) v) slot x l = (acts a slot x l).put (some d) v
  | [], _ => rfl
  | i :: r, h => by
    show (acts (a.put (some d) v) slot x r).put (some (slot i)) (x i) = _
    rw [acts_other r (fun j hj => h j (by simp [hj]))]
    have hed : slot i ≠ d := h i (by simp)
    show _ = ((acts a slot x r).put (some (slot i)) (x i)).put (some d) v
    unfold Act.put
    simp only
    rw [Array.setIfInBounds_comm _ _ (Ne.symm hed)]
theorem acts_same {a : Act} {slot : Nat → Tmp} {x y : Nat → Value} : ∀ l : List Nat, (∀ i ∈ l, x i = y i) → acts a slot x l = acts a slot y l
  | [], _ => rfl
  | i :: r, h => by
    show (acts a slot x r).put _ _ = (acts a slot y r).put _ _
    rw [acts_same r (fun j hj => h j (by simp [hj])), h i (by simp)]
theorem acts_set {a : Act} {slot : Nat → Tmp} {x : Nat → Value} {v : Value} {i : Nat} : ∀ l : List Nat, i ∈ l → l.Nodup → (∀ j ∈ l, ∀ k ∈ l, slot j = slot k → j = k) → (acts a slot x l).put (some (slot i)) v = acts a slot (fun j => if j = i then v else x j) l
  | [], h, _, _ => by simp at h
  | k :: r, h, hn, hs => by
    rw [List.nodup_cons] at hn
    by_cases hki : k = i
    · subst hki
      show ((acts a slot x r).put (some (slot k)) (x k)).put (some (slot k)) v = (acts a slot _ r).put (some (slot k)) _
      rw [put_twice]
      simp only [if_true]
      rw [acts_same r (x := x) (y := fun j => if j = k then v else x j) (fun j hj => by rw [if_neg (fun (e : j = k) => hn.1 (e ▸ hj))])]
    · have hi : i ∈ r := by
        rcases List.mem_cons.1 h with h | h
        · exact absurd h.symm hki
        · exact h
      have ih := acts_set (a := a) (x := x) (v := v) r hi hn.2 (fun j hj k hk => hs j (by simp [hj]) k (by simp [hk]))
      show ((acts a slot x r).put (some (slot k)) (x k)).put (some (slot i)) v = (acts a slot _ r).put (some (slot k)) _
      rw [← ih]
      simp only [hki, if_false]
      have hed : slot k ≠ slot i := fun e => hki (hs k (by simp) i h e)
      unfold Act.put
      simp only
      rw [Array.setIfInBounds_comm _ _ hed]
theorem acts_own {a : Act} {slot : Nat → Tmp} : ∀ l : List Nat, acts a slot (fun i => a.tmps.getD (slot i) undef) l = a
  | [] => rfl
  | i :: r => by
    show (acts a slot _ r).put _ _ = a
    rw [acts_own r]
    exact put_own a _

section
variable {P : Program} {ops : Array Oper} {Q : Exit → Act → World → Prop} {md : Region.Mode}

/-- What the way behind operation i is handed. -/
def After (F : Nat → Value → World → Prop) (al : List Nat) (act : (Nat → Value) → Act) (slot : Nat → Tmp) (i : Nat) (x : Nat → Value) (w : World) (a' : Act) (w' : World) : Prop :=
  ∃ v, a' = (act x).put (some (slot i)) v ∧ Below w.heap.size w w' ∧ F i v w' ∧ (i ∈ al → ∀ k ∈ al, F k (x k) w → x k ≠ v)
theorem after_mk {F : Nat → Value → World → Prop} {al : List Nat} {act : (Nat → Value) → Act} {slot : Nat → Tmp} {i : Nat} {x : Nat → Value} {w : World} {a' : Act} {w' : World} (v : Value) (h1 : a' = (act x).put (some (slot i)) v) (h2 : Below w.heap.size w w') (h3 : F i v w') (h4 : i ∈ al → ∀ k ∈ al, F k (x k) w → x k ≠ v) : After F al act slot i x w a' w' := ⟨v, h1, h2, h3, h4⟩
/-- One operation's step. -/
def StepF (P : Program) (ops : Array Oper) (Q : Exit → Act → World → Prop) (md : Region.Mode) (F : Nat → Value → World → Prop) (al : List Nat) (act : (Nat → Value) → Act) (slot : Nat → Tmp) (W : World) (l : List Nat) (i : Nat) (o : Oper) : Prop :=
  ∀ (x : Nat → Value) (w : World), Below W.heap.size W w → (∀ k ∈ l, (o.after.any fun e => Region.binds md e && e.on == k) = true → F k (x k) w) →
    ∀ K : Act → World → Prop, Shut (∀ a' w', After F al act slot i x w a' w' → K a' w') → if Region.wanted o (yielded ops (act x).tmps) = true then Oper.wp P o (act x) w K Q else K ((act x).put o.dst undef) w
def StepsF (P : Program) (ops : Array Oper) (Q : Exit → Act → World → Prop) (md : Region.Mode) (F : Nat → Value → World → Prop) (al : List Nat) (act : (Nat → Value) → Act) (slot : Nat → Tmp) (W : World) (l : List Nat) (rs : List Nat) : Prop :=
  ∀ i ∈ rs, ∃ o, ops[i]? = some o ∧ o.dst = some (slot i) ∧ StepF P ops Q md F al act slot W l i o
theorem StepsF.nil {F : Nat → Value → World → Prop} {al : List Nat} {act : (Nat → Value) → Act} {slot : Nat → Tmp} {W : World} {l : List Nat} : StepsF P ops Q md F al act slot W l [] := fun _ h => by cases h
theorem StepsF.cons {F : Nat → Value → World → Prop} {al : List Nat} {act : (Nat → Value) → Act} {slot : Nat → Tmp} {W : World} {l : List Nat} {i : Nat} {o : Oper} {rs : List Nat} (ho : ops[i]? = some o) (hd : o.dst = some (slot i))
    (h : ∀ (x : Nat → Value) (w : World), Below W.heap.size W w → (∀ k ∈ l, (o.after.any fun e => Region.binds md e && e.on == k) = true → F k (x k) w) → ∀ K : Act → World → Prop, Shut (∀ a' w', After F al act slot i x w a' w' → K a' w') → if Region.wanted o (yielded ops (act x).tmps) = true then Oper.wp P o (act x) w K Q else K ((act x).put o.dst undef) w)
    (hs : StepsF P ops Q md F al act slot W l rs) : StepsF P ops Q md F al act slot W l (i :: rs) := fun j hj => by
  rcases List.mem_cons.1 hj with rfl | hj
  · exact ⟨o, ho, hd, h⟩
  · exact hs j hj

/-- Must i come up ahead of o? -/
def deepF (md : Region.Mode) (ops : Array Oper) : Nat → Oper → Nat → Bool
  | 0, _, _ => false
  | f + 1, o, i => o.after.any fun e => Region.binds md e && (e.on == i || match ops[e.on]? with
      | some o' => deepF md ops f o' i
      | none => false)
/-- No operation outside pre and l may come up till all of l have. -/
def lateF (md : Region.Mode) (ops : Array Oper) (pre l : List Nat) : Bool :=
  (List.range ops.size).all fun j => (pre.contains j || l.contains j) || match ops[j]? with
    | some o => l.all fun i => deepF md ops 6 o i
    | none => true
theorem deepF_listed {L : Array Bool} (hc : ∀ j o, L.getD j false = true → ops[j]? = some o → ∀ e ∈ o.after, Region.binds md e = true → L.getD e.on false = true) :
    ∀ (f : Nat) (o : Oper) (i : Nat), (∀ e ∈ o.after, Region.binds md e = true → L.getD e.on false = true) → deepF md ops f o i = true → L.getD i false = true
  | 0, _, _, _, h => by simp [deepF] at h
  | f + 1, o, i, ho, h => by
    rw [deepF, Array.any_eq_true'] at h
    obtain ⟨e, he, h⟩ := h
    simp only [Bool.and_eq_true, Bool.or_eq_true, beq_iff_eq] at h
    obtain ⟨hb, h⟩ := h
    rcases h with rfl | h
    · exact ho e he hb
    · split at h
      · rename_i o' ho'
        exact deepF_listed hc f o' i (hc _ _ (ho e he hb) ho') h
      · simp at h
theorem lateF_listed {L : Array Bool} {pre l : List Nat} {j : Nat} (hl : lateF md ops pre l = true) (hc : ∀ j o, L.getD j false = true → ops[j]? = some o → ∀ e ∈ o.after, Region.binds md e = true → L.getD e.on false = true)
    (hj : j ∈ Region.ready md ops L) (hp : j ∉ pre) (hn : j ∉ l) : ∀ i ∈ l, L.getD i false = true := by
  intro i hi
  obtain ⟨_, o, ho, ha⟩ := mem_ready.1 hj
  have hjs : j < ops.size := (Array.getElem?_eq_some_iff.1 ho).1
  rw [lateF, List.all_eq_true] at hl
  have h1 := hl j (List.mem_range.2 hjs)
  rw [ho] at h1
  simp only [Bool.or_eq_true, List.all_eq_true, List.contains_iff_mem] at h1
  rcases h1 with (h1 | h1) | h1
  · exact absurd h1 hp
  · exact absurd h1 hn
  · exact deepF_listed hc 6 o i ha (h1 i hi)

/-- Each waits for such as stand ahead of it alone. -/
def topoF (md : Region.Mode) (ops : Array Oper) : Bool :=
  (List.range ops.size).all fun j => match ops[j]? with
    | some o => o.after.all fun e => !Region.binds md e || decide (e.on < j)
    | none => true
theorem topoF_on {j : Nat} {o : Oper} (h : topoF md ops = true) (ho : ops[j]? = some o) : ∀ e ∈ o.after, Region.binds md e = true → e.on < j := by
  intro e he hb
  have hjs : j < ops.size := (Array.getElem?_eq_some_iff.1 ho).1
  rw [topoF, List.all_eq_true] at h
  have h1 := h j (List.mem_range.2 hjs)
  rw [ho] at h1
  have h2 := Array.all_eq_true_iff_forall_mem.1 h1 e he
  simpa [hb] using h2
/-- The first that has not come up may come up. -/
theorem topoF_ready {L : Array Bool} (ht : topoF md ops = true) : ∀ (n i : Nat), i < n → i < ops.size → L.getD i true = false → Region.ready md ops L ≠ []
  | 0, _, h, _, _ => by omega
  | n + 1, i, h, hs, hi => by
    have ho : ops[i]? = some ops[i] := Array.getElem?_eq_getElem hs
    by_cases ha : ∀ e ∈ ops[i].after, Region.binds md e = true → L.getD e.on false = true
    · intro h0
      have := (mem_ready (md := md) (ops := ops)).2 ⟨hi, _, ho, ha⟩
      rw [h0] at this
      cases this
    · simp only [Classical.not_forall] at ha
      obtain ⟨e, he, hb, hL⟩ := ha
      have hlt := topoF_on ht ho e he hb
      by_cases hsz : e.on < L.size
      · refine topoF_ready ht n e.on (by omega) (by omega) ?_
        simpa [hsz] using hL
      · refine topoF_ready ht n e.on (by omega) (by omega) ?_
        exfalso
        have hi2 : ¬ i < L.size := by omega
        simp [hi2] at hi

/-- How things stand on the way. -/
structure OrdInv (md : Region.Mode) (ops : Array Oper) (F : Nat → Value → World → Prop) (al : List Nat) (W : World) (pre l : List Nat) (fuel : Nat) (L : Array Bool) (x : Nat → Value) (w : World) : Prop where
  size : L.size = ops.size
  came : ∀ j ∈ pre, L.getD j false = true
  late : ∀ j, j ∉ pre → j ∉ l → j < ops.size → L[j]? = some false
  closed : ∀ j o, L.getD j false = true → ops[j]? = some o → ∀ e ∈ o.after, Region.binds md e = true → L.getD e.on false = true
  count : L.toList.count false ≤ fuel
  below : Below W.heap.size W w
  facts : ∀ i ∈ l, L.getD i false = true → F i (x i) w
  apart : ∀ i ∈ al, ∀ k ∈ al, i ≠ k → L.getD i false = true → L.getD k false = true → x i ≠ x k

/-- Those of l are listed, no other. -/
def listL (l : List Nat) (m : Nat) : Array Bool := ((List.range m).map fun i => l.contains i).toArray
theorem listed_all {L : Array Bool} {pre l : List Nat} {m : Nat} (hs : L.size = m) (h0 : ∀ i ∈ pre, L.getD i false = true) (h1 : ∀ i ∈ l, L.getD i false = true) (h2 : ∀ j, j ∉ pre → j ∉ l → j < m → L[j]? = some false) : L = listL (pre ++ l) m := by
  unfold listL
  apply Array.ext (by simpa using hs)
  intro i h3 h4
  simp only [List.getElem_toArray, List.getElem_map, List.getElem_range]
  by_cases hp : i ∈ pre
  · have := h0 i hp
    simp [h3] at this
    simp [hp, this]
  by_cases hi : i ∈ l
  · have := h1 i hi
    simp [h3] at this
    simp [hi, this]
  · have := h2 i hp hi (by omega)
    rw [Array.getElem?_eq_getElem h3] at this
    injection this with this
    rw [this]
    simp [hi, hp]

theorem wpAny_facts {pre l : List Nat} {c : Nat} {slot : Nat → Tmp} {F : Nat → Value → World → Prop} {al : List Nat} {a0 : Act} {W : World} (hn : ∀ i ∈ l, i < ops.size) (hdup : l.Nodup) (hal : ∀ i ∈ al, i ∈ l) (hslot : ∀ i ∈ l, ∀ k ∈ l, slot i = slot k → i = k) (hl : lateF md ops pre l = true) (ht : topoF md ops = true) (hc : c = (listL (pre ++ l) ops.size).toList.count false)
    (hm : ∀ i ∈ l, ∀ v w w', F i v w → Below w.heap.size w w' → F i v w')
    (hst : StepsF P ops Q md F al (fun x => acts a0 slot x l) slot W l l)
    (hend : ∀ x w, Below W.heap.size W w → (∀ i ∈ l, F i (x i) w) → (∀ i ∈ al, ∀ k ∈ al, i ≠ k → x i ≠ x k) → ∀ fuel, c ≤ fuel → wpAny P md ops Q fuel (listL (pre ++ l) ops.size) (acts a0 slot x l) w) :
    ∀ (fuel : Nat) (L : Array Bool) (x : Nat → Value) (w : World), OrdInv md ops F al W pre l fuel L x w → wpAny P md ops Q fuel L (acts a0 slot x l) w := by
  have done : ∀ (fuel : Nat) (L : Array Bool) (x : Nat → Value) (w : World), OrdInv md ops F al W pre l fuel L x w → (∀ i ∈ l, L.getD i false = true) → wpAny P md ops Q fuel L (acts a0 slot x l) w := by
    intro fuel L x w hI hall
    have hL := listed_all hI.size hI.came hall hI.late
    have hcc := hI.count
    rw [hL] at hcc ⊢
    exact hend x w hI.below (fun i hi => hI.facts i hi (hall i hi)) (fun i hi k hk hik => hI.apart i hi k hk hik (hall i (hal i hi)) (hall k (hal k hk))) fuel (by omega)
  intro fuel
  induction fuel with
  | zero =>
    intro L x w hI
    refine done 0 L x w hI fun i hi => ?_
    have hcc := hI.count
    have hs := hI.size
    have : false ∉ L.toList := List.count_eq_zero.1 (by omega)
    have hi' : i < L.size := by have := hn i hi; omega
    simp [hi']
    cases h : L[i] with
    | true => rfl
    | false => exact absurd (h ▸ Array.mem_toList_iff.2 (Array.getElem_mem hi')) this
  | succ fuel ih =>
    intro L x w hI
    by_cases hall : ∀ i ∈ l, L.getD i false = true
    · exact done _ L x w hI hall
    refine ⟨fun h0 => ?_, fun i hi => ?_⟩
    · refine absurd h0 ?_
      simp only [Classical.not_forall] at hall
      obtain ⟨i, hi, hL⟩ := hall
      have his : i < L.size := by have := hI.size; have := hn i hi; omega
      exact topoF_ready ht (i + 1) i (by omega) (hn i hi) (by simpa [his] using hL)
    · have hin : i ∈ l := by
        by_cases h : i ∈ l
        · exact h
        · refine absurd (lateF_listed hl hI.closed hi (fun hp => ?_) h) hall
          have h1 := hI.came i hp
          have h2 := (mem_ready.1 hi).1
          by_cases his : i < L.size
          · simp [his] at h1 h2
            rw [h1] at h2
            cases h2
          · simp [his] at h1
      obtain ⟨hun, o, ho, ha⟩ := mem_ready.1 hi
      obtain ⟨o', ho', hd, hs⟩ := hst i hin
      rw [ho] at ho'
      injection ho' with ho'
      subst ho'
      refine wpOp_step ho fun K hK => hs x w hI.below (fun k hkl hk => ?_) K fun a' w' hA => ?_
      · rw [Array.any_eq_true'] at hk
        obtain ⟨e, he, hk⟩ := hk
        simp only [Bool.and_eq_true, beq_iff_eq] at hk
        obtain ⟨hb, rfl⟩ := hk
        exact hI.facts _ hkl (ha e he hb)
      · obtain ⟨v, rfl, hB, hF, hap⟩ := hA
        apply hK
        rw [acts_set l hin hdup hslot]
        have his : i < L.size := by have := hI.size; have := hn i hin; omega
        have hLi : L[i] = false := by simpa [his] using hun
        have hset : ∀ j, j ≠ i → (L.setIfInBounds i true).getD j false = L.getD j false := fun j hj => getD_set_ne false (Ne.symm hj)
        refine ih _ _ _ ⟨by simpa using hI.size, fun j hj => getD_set_true (hI.came j hj), fun j h0 h1 h2 => ?_, fun j o1 h1 h2 e he hb => ?_, ?_, below_then hI.below hB, fun k hk h1 => ?_, fun k hk j hj hkj h1 h2 => ?_⟩
        · rw [Array.getElem?_setIfInBounds_ne (fun e : i = j => h1 (e ▸ hin))]
          exact hI.late j h0 h1 h2
        · apply getD_set_true
          by_cases hji : j = i
          · subst hji
            rw [ho] at h2
            injection h2 with h2
            subst h2
            exact ha e he hb
          · rw [hset j hji] at h1
            exact hI.closed j o1 h1 h2 e he hb
        · have hcc := hI.count
          have h5 : L.toList[i]'(by simpa using his) = false := by simpa using hLi
          rw [Array.toList_setIfInBounds, List.count_set (by simpa using his), h5]
          simp only [beq_self_eq_true, if_true, show (true == false) = false from rfl, Bool.false_eq_true, if_false]
          omega
        · by_cases hki : k = i
          · subst hki
            simp only [if_true]
            exact hF
          · simp only [hki, if_false]
            rw [hset k hki] at h1
            exact hm k hk _ _ _ (hI.facts k hk h1) hB
        · by_cases hki : k = i
          · subst hki
            have hji : j ≠ k := fun e => hkj e.symm
            simp only [if_true, hji, if_false]
            rw [hset j hji] at h2
            exact (hap hk j hj (hI.facts j (hal j hj) h2)).symm
          · by_cases hji : j = i
            · subst hji
              simp only [if_true, hki, if_false]
              rw [hset k hki] at h1
              exact hap hj k hk (hI.facts k (hal k hk) h1)
            · simp only [hki, hji, if_false]
              rw [hset k hki] at h1
              rw [hset j hji] at h2
              exact hI.apart k hk j hj hkj h1 h2

/-- A fact on a value that bears whatever comes behind. -/
def Bears (p : Value → World → Prop) : Prop := ∀ v w w', p v w → Below w.heap.size w w' → p v w'
theorem bears_is (u : Value) : Bears (fun v _ => v = u) := fun _ _ _ h _ => h
theorem bears_only (p : Value → Prop) : Bears (fun v _ => p v) := fun _ _ _ h _ => h
/-- What operation i's slot holds. -/
def nth (ps : List (Value → World → Prop)) (i : Nat) : Value → World → Prop := ps.getD i (fun _ _ => True)

/-- What pre waits for is in pre. -/
def preF (md : Region.Mode) (ops : Array Oper) (pre : List Nat) : Bool :=
  pre.all fun i => decide (i < ops.size) && match ops[i]? with
    | some o => o.after.all fun e => !Region.binds md e || pre.contains e.on
    | none => true
/-- What the law asks of the operations alone: reckoned by the kernel. -/
def ordOk (md : Region.Mode) (ops : Array Oper) (slots : List Tmp) (al pre l : List Nat) : Bool :=
  l.all (fun i => decide (i < ops.size)) && decide l.Nodup && al.all (fun i => l.contains i) && l.all (fun i => l.all fun k => !(slots.getD i 0 == slots.getD k 0) || i == k) && lateF md ops pre l && topoF md ops && preF md ops pre && l.all (fun i => !pre.contains i)
/-- THE LAW, from where pre has come up: what the slots of the operations of l hold once they have come up (the facts ps, by the operation's number), what each step shows, and what follows when all of l have come up. al: those whose values differ from each other. L: pre and l listed; k: how many are left. -/
theorem wpAny_ps {a : Act} {w : World} {fuel : Nat} {L0 : Array Bool} (pre : List Nat) (slots : List Tmp) (ps : List (Value → World → Prop)) (al : List Nat) (l : List Nat) (L : Array Bool) (k : Nat)
    (hb : ordOk md ops slots al pre l = true) (hL0 : listL pre ops.size = L0) (hf : L0.toList.count false = fuel) (hL : listL (pre ++ l) ops.size = L) (hk : L.toList.count false = k)
    (hm : ∀ p ∈ ps, Bears p)
    (hst : StepsF P ops Q md (nth ps) al (fun x => acts a (fun i => slots.getD i 0) x l) (fun i => slots.getD i 0) w l l)
    (hend : ∀ x wx, Below w.heap.size w wx → (∀ i ∈ l, nth ps i (x i) wx) → (∀ i ∈ al, ∀ k ∈ al, i ≠ k → x i ≠ x k) → ∀ fuel, wpAny P md ops Q (fuel + k) L (acts a (fun i => slots.getD i 0) x l) wx) :
    wpAny P md ops Q fuel L0 a w := by
  subst hL hL0
  simp only [ordOk, Bool.and_eq_true, decide_eq_true_eq, List.all_eq_true, Bool.or_eq_true, Bool.not_eq_true', beq_eq_false_iff_ne, beq_iff_eq, List.contains_iff_mem] at hb
  obtain ⟨⟨⟨⟨⟨⟨⟨h1, h2⟩, h3⟩, h4⟩, h5⟩, h6⟩, h7⟩, h0⟩ := hb
  have hno : ∀ i ∈ l, i ∉ pre := fun i hi hp => by
    have := h0 i hi
    simp [hp] at this
  rw [preF, List.all_eq_true] at h7
  have hpl : ∀ j ∈ pre, j < ops.size := fun j hj => by
    have := h7 j hj
    simp only [Bool.and_eq_true, decide_eq_true_eq] at this
    exact this.1
  have hget : ∀ j, (listL pre ops.size).getD j false = true → j ∈ pre := fun j hj => by
    unfold listL at hj
    by_cases h : j < ops.size
    · simpa [h] using hj
    · simp [h] at hj
  have := wpAny_facts (pre := pre) (a0 := a) (F := nth ps) h1 h2 h3 (fun i hi k hk e => (h4 i hi k hk).resolve_left (fun h => h e)) h5 h6 hk.symm (fun i _ v w w' h hB => by
      unfold nth at h ⊢
      by_cases hi : i < ps.length
      · have e : ps.getD i (fun _ _ => True) = ps[i] := by simp [hi]
        rw [e] at h ⊢
        exact hm _ (List.getElem_mem hi) v w w' h hB
      · have e : ps.getD i (fun _ _ => True) = fun _ _ => True := by simp [Nat.not_lt.1 hi]
        rw [e]
        trivial) hst (fun x wx hB hF ha fuel hf => by
    obtain ⟨g, rfl⟩ : ∃ g, fuel = g + k := ⟨fuel - k, by omega⟩
    exact hend x wx hB hF ha g) fuel (listL pre ops.size) (fun i => a.tmps.getD (slots.getD i 0) undef) w
    ⟨by simp [listL], fun j hj => by simp [listL, hpl j hj, hj], fun j h8 _ h => by simp [listL, h, h8], fun j o hj ho e he hb => by
      have h8 := h7 j (hget j hj)
      rw [ho] at h8
      simp only [Bool.and_eq_true] at h8
      have h9 := Array.all_eq_true_iff_forall_mem.1 h8.2 e he
      have h10 : e.on ∈ pre := by simpa [hb] using h9
      simp [listL, hpl _ h10, h10], by omega, Below.refl _ _, fun j hj hjL => absurd (hget j hjL) (hno j hj), fun j hj _ _ _ hjL => absurd (hget j hjL) (hno j (h3 j hj))⟩
  rw [acts_own (slot := fun i => slots.getD i 0)] at this
  exact this
/-- THE SAME, from the region's beginning. -/
theorem wp_region_ps {id : Nat} {a : Act} {w : World} (slots : List Tmp) (ps : List (Value → World → Prop)) (al : List Nat) (l : List Nat) (L : Array Bool) (k : Nat) (hp : P.follows .mixedOrders = true)
    (hb : ordOk .any ops slots al [] l = true)
    (hL : listL l ops.size = L) (hk : L.toList.count false = k)
    (hm : ∀ p ∈ ps, Bears p)
    (hst : StepsF P ops Q .any (nth ps) al (fun x => acts a (fun i => slots.getD i 0) x l) (fun i => slots.getD i 0) w.drew l l)
    (hend : ∀ x wx, Below w.drew.heap.size w.drew wx → (∀ i ∈ l, nth ps i (x i) wx) → (∀ i ∈ al, ∀ k ∈ al, i ≠ k → x i ≠ x k) → ∀ fuel, wpAny P .any ops Q (fuel + k) L (acts a (fun i => slots.getD i 0) x l) wx) :
    (Code.region id ops true).wp P Q a w :=
  wp_region_any hp (wpAny_ps [] slots ps al l L k hb (by
    apply Array.ext (by simp [listL])
    intro i h1 h2
    simp [listL]) (by simp) hL hk hm hst hend)
/-- The beginning of a region of which some operations are taken first. -/
theorem wp_region_start {id : Nat} {a : Act} {w : World} (hp : P.follows .mixedOrders = true) (h : wpAny P .any ops Q ops.size (Array.replicate ops.size false) a w.drew) : (Code.region id ops true).wp P Q a w := wp_region_any hp h
/-- The world at hand, as a letter. -/
theorem wpAny_letter {fuel : Nat} {L : Array Bool} {a : Act} {W : World} (S : World → Prop) (hS : S W) (h : ∀ wx, S wx → wpAny P md ops Q fuel L a wx) : wpAny P md ops Q fuel L a W := h W hS

end
end Go.Proofs.Ytamdmicdieeolaa
