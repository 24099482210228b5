/-
  Package deal: the walks of Right, Pool, Notes.
-/
import Derived.Test.YtamdmicdieeolaaDeal4
import Derived.Test.YtamdmicdieeolaaDealNum
namespace Go.Proofs.Ytamdmicdieeolaa
open Go.RowKit

/-- A whole struct loaded where a guard is met. -/
theorem wpList_load_met {P : Program} {ops : Array Oper} {rest : List Oper} {o : Oper} {a : Act} {w : World} {Q : Exit → Act → World → Prop} (hw : Region.wanted o (yielded ops a.tmps) = true) (ty : TypeId) (x : Operand) (ho : o.op = .load ty x)
    (g : Nat) (hx : a.eval x = .pointer (some ⟨g, 0, none⟩)) (t : TypeId) (cs : Array Value) (fr : Nat × Nat) (d : TypeDesc) (hg : w.heap[g]? = some (.cells cs t fr))
    (hu : P.underlying ty = some d) (hd : (match d with | .struct _ | .array _ _ => true | _ => false) = true) (hi : (P.info? ty).map (·.size) = some cs.size)
    (h : wpList P ops Q rest (a.put o.dst (.agg cs)) w) : wpList P ops Q (o :: rest) a w := by
  unfold wpList
  rw [if_pos hw]
  exact Or.inl (wp_load_row ty x ho g hx t cs fr d hg hu hd hi h)
theorem inL_len {lo hi : Int} {n : Nat} (h : inL lo hi [(n : Int)] = true) : lo ≤ n ∧ n ≤ hi := by
  rw [inL_one] at h
  simpa using h
theorem loansP_len {xs : List LnT} (h : loansP xs = true) : xs.length ≤ 64 := by
  unfold loansP at h
  rw [Bool.and_eq_true] at h
  have := inL_len h.1
  omega
theorem notesP_len {xs : List TrT} (h : notesP xs = true) : xs.length ≤ 8 := by
  unfold notesP at h
  rw [Bool.and_eq_true] at h
  have := inL_len h.1
  omega
set_option maxHeartbeats 4000000 in
theorem dright_any (l n a b c : Value) (d : DealT) (w : World) (h : DealIn w l n a b c d) :
    Calls Try.prog 8 #[d.t.v l n a b c] w fun e w' => e = .returned (.bool d.ok) ∧ Below w.heap.size w w' := by
  obtain ⟨V, hV⟩ : ∃ V, d.ok = V := ⟨_, rfl⟩
  rw [hV]
  unfold DealT.ok at hV
  obtain ⟨A1, h1⟩ : ∃ A, d.t.ok = A := ⟨_, rfl⟩
  obtain ⟨A2, h2⟩ : ∃ A, loansP d.ls = A := ⟨_, rfl⟩
  obtain ⟨A3, h3⟩ : ∃ A, notesP d.ns = A := ⟨_, rfl⟩
  obtain ⟨A4, h4⟩ : ∃ A, d.modes = A := ⟨_, rfl⟩
  obtain ⟨S1, h5⟩ : ∃ A, d.lent = A := ⟨_, rfl⟩
  obtain ⟨S2, h6⟩ : ∃ A, d.issued = A := ⟨_, rfl⟩
  rw [h1, h2, h3, h4, h5, h6] at hV
  have HV : Hid ((A1 && A2 && A3 && S1.isSome && S2.isSome && decide (S1.getD 0 ≤ 1099511627776) && decide (S2.getD 0 ≤ S1.getD 0) && A4) = V) := hV
  obtain ⟨Z1, hz1⟩ : ∃ Z, d.ls.map LnT.bal = Z := ⟨_, rfl⟩
  obtain ⟨Z2, hz2⟩ : ∃ Z, d.ns.map TrT.og = Z := ⟨_, rfl⟩
  have E5 : sumFrom Z1 0 = S1 := by rw [← hz1]; exact h5
  have E6 : sumFrom Z2 0 = S2 := by rw [← hz2]; exact h6
  have e1 : ∀ wx, Calls Try.prog 17 #[d.t.v l n a b c] wx fun e w' => e = .returned (.bool A1) ∧ Below wx.heap.size wx w' := fun wx => by rw [← h1]; exact rnums_any l n a b c d.t wx
  have e4 : ∀ wx, DealIn wx l n a b c d → Calls Try.prog 23 #[d.t.v l n a b c] wx fun e w' => e = .returned (.bool A4) ∧ Below wx.heap.size wx w' := fun wx hx => by rw [← h4]; exact modes_any l n a b c d wx hx
  obtain ⟨t, ht⟩ : ∃ t, d.t = t := ⟨_, rfl⟩
  rw [ht] at e1 e4 ⊢
  clear ht
  obtain ⟨yr, mo, ba, fe, re, ta, ad, cu, t0, t1, t2, t3, t4⟩ := t
  unfold NumT.v at e1 e4 ⊢
  simp only at e1 e4 ⊢
  have P6 : Hid (∀ (v : Value) (w : World) (R : Ending → World → Prop), Reads w v Z1 → R (.returned (.tuple #[.int .i64 (S1.getD 0), .bool S1.isSome])) w → Calls Try.prog 20 #[v] w R) := fun v w R r h => (sum_any v Z1 w r).mono (by rintro e w' ⟨rfl, rfl⟩; rw [E5]; exact h)
  have P7 : Hid (∀ (v : Value) (w : World) (R : Ending → World → Prop), Reads w v Z2 → R (.returned (.tuple #[.int .i64 (S2.getD 0), .bool S2.isSome])) w → Calls Try.prog 20 #[v] w R) := fun v w R r h => (sum_any v Z2 w r).mono (by rintro e w' ⟨rfl, rfl⟩; rw [E6]; exact h)
  go_enter Try.func8, Try.ntmps8
  go_upto_region 1 with fail
  refine wp_letter (fun wx => ∃ g, w.heap.size = g ∧ Blk wx g 29 (NumT.f ⟨yr, mo, ba, fe, re, ta, ad, cu, t0, t1, t2, t3, t4⟩ l n a b c) ∧ Below w.heap.size w wx) ⟨_, rfl, Blk.fresh _ _ (NumT.f ⟨yr, mo, ba, fe, re, ta, ad, cu, t0, t1, t2, t3, t4⟩ l n a b c), below_alloc (Below.refl _ _) _⟩ ?_
  rintro W ⟨g, eg, bg, hW⟩
  rw [eg]
  clear eg
  have H : DealIn W l n a b c d := h.below hW
  have hB : Below W.heap.size W W := Below.refl _ _
  have P1 : Hid (∀ (w : World) (R : Ending → World → Prop), (∀ w', Below w.heap.size w w' → R (.returned (.bool A1)) w') → Calls Try.prog 17 #[.agg #[.int .i64 yr, .int .i64 mo, .int .i64 ba, l, n, .int .i64 fe, .int .i64 re, .int .i64 ta, .int .i64 ad, .int .i64 cu, .int .i64 t0, .int .i64 t1, .int .i64 t2, .int .i64 t3, .int .i64 t4, a, b, c]] w R) := fun w R h => (e1 w).mono (by rintro e w' ⟨rfl, d⟩; exact h w' d)
  have P2 : Hid (∀ (w : World) (R : Ending → World → Prop), Below W.heap.size W w → (∀ w', Below w.heap.size w w' → R (.returned (.bool A2)) w') → Calls Try.prog 18 #[l] w R) := fun w R k h => (rloans_any l d.ls w (H.ls.below k)).mono (by rintro e w' ⟨rfl, d⟩; rw [h2]; exact h w' d)
  have P3 : Hid (∀ (w : World) (R : Ending → World → Prop), Below W.heap.size W w → (∀ w', Below w.heap.size w w' → R (.returned (.bool A3)) w') → Calls Try.prog 19 #[n] w R) := fun w R k h => (rnotes_any n d.ns w (H.ns.below k)).mono (by rintro e w' ⟨rfl, d⟩; rw [h3]; exact h w' d)
  have P8 : Hid (∀ (w : World) (R : Ending → World → Prop), Below W.heap.size W w → (∀ w', Below w.heap.size w w' → R (.returned (.bool A4)) w') → Calls Try.prog 23 #[.agg #[.int .i64 yr, .int .i64 mo, .int .i64 ba, l, n, .int .i64 fe, .int .i64 re, .int .i64 ta, .int .i64 ad, .int .i64 cu, .int .i64 t0, .int .i64 t1, .int .i64 t2, .int .i64 t3, .int .i64 t4, a, b, c]] w R) := fun w R k h => (e4 w (H.below k)).mono (by rintro e w' ⟨rfl, d⟩; exact h w' d)
  have P4 : Hid (A2 = true → ∀ (w : World) (R : Ending → World → Prop), Below W.heap.size W w → (∀ v w', Reads w' v Z1 → Below w.heap.size w w' → R (.returned v) w') → Calls Try.prog 21 #[l] w R) := fun q w R k h => (balances_any l d.ls w (H.ls.below k) (by have := loansP_len (h2.trans q); omega)).mono (by rintro e w' ⟨v, rfl, r, d⟩; rw [hz1] at r; exact h v w' r d)
  have P5 : Hid (A3 = true → ∀ (w : World) (R : Ending → World → Prop), Below W.heap.size W w → (∀ v w', Reads w' v Z2 → Below w.heap.size w w' → R (.returned v) w') → Calls Try.prog 22 #[n] w R) := fun q w R k h => (originals_any n d.ns w (H.ns.below k) (by have := notesP_len (h3.trans q); omega)).mono (by rintro e w' ⟨v, rfl, r, d⟩; rw [hz2] at r; exact h v w' r d)
  clear h hV h1 h2 h3 h4 h5 h6 e1 e4 H hz1 hz2 E5 E6
  have c3 := bg.cell 3 _ rfl
  have SZ : (Try.prog.info? 29).map (·.size) = some (18 : Nat) := by kernel_rfl
  cases A1 with
  | false =>
    have HE : Hid (V = false) := HV.out.symm
    clear HV
    go_wp2_with (first | (refine wpList_load_row rfl 29 (.tmp 1) rfl g rfl 29 #[.int .i64 yr, .int .i64 mo, .int .i64 ba, l, n, .int .i64 fe, .int .i64 re, .int .i64 ta, .int .i64 ad, .int .i64 cu, .int .i64 t0, .int .i64 t1, .int .i64 t2, .int .i64 t3, .int .i64 t4, a, b, c] (0, 0) _ bg Try.underlying29 rfl SZ ?_) | (with_reducible refine P1.out _ _ (fun w1 bn => ?_); replace hB := below_then hB bn; replace bg := bg.then bn; have c3 := bg.cell 3 _ rfl))
    go_ret
    exact ⟨by rw [HE.out]; rfl, below_then hW hB⟩
  | true =>
  cases A2 with
  | false =>
    have HE : Hid (V = false) := HV.out.symm
    clear HV
    go_wp2_with (first | (refine wpList_load_row rfl 29 (.tmp 1) rfl g rfl 29 #[.int .i64 yr, .int .i64 mo, .int .i64 ba, l, n, .int .i64 fe, .int .i64 re, .int .i64 ta, .int .i64 ad, .int .i64 cu, .int .i64 t0, .int .i64 t1, .int .i64 t2, .int .i64 t3, .int .i64 t4, a, b, c] (0, 0) _ bg Try.underlying29 rfl SZ ?_) | (with_reducible refine P1.out _ _ (fun w1 bn => ?_); replace hB := below_then hB bn; replace bg := bg.then bn; have c3 := bg.cell 3 _ rfl) | (with_reducible refine P2.out _ _ hB (fun w2 bn => ?_); replace hB := below_then hB bn; replace bg := bg.then bn; have c4 := bg.cell 4 _ rfl))
    go_ret
    exact ⟨by rw [HE.out]; rfl, below_then hW hB⟩
  | true =>
  cases A3 with
  | false =>
    have HE : Hid (V = false) := HV.out.symm
    clear HV
    go_wp2_with (first | (refine wpList_load_row rfl 29 (.tmp 1) rfl g rfl 29 #[.int .i64 yr, .int .i64 mo, .int .i64 ba, l, n, .int .i64 fe, .int .i64 re, .int .i64 ta, .int .i64 ad, .int .i64 cu, .int .i64 t0, .int .i64 t1, .int .i64 t2, .int .i64 t3, .int .i64 t4, a, b, c] (0, 0) _ bg Try.underlying29 rfl SZ ?_) | (with_reducible refine P1.out _ _ (fun w1 bn => ?_); replace hB := below_then hB bn; replace bg := bg.then bn; have c3 := bg.cell 3 _ rfl) | (with_reducible refine P2.out _ _ hB (fun w2 bn => ?_); replace hB := below_then hB bn; replace bg := bg.then bn; have c4 := bg.cell 4 _ rfl) | (with_reducible refine P3.out _ _ hB (fun w3 bn => ?_); replace hB := below_then hB bn; replace bg := bg.then bn))
    go_ret
    exact ⟨by rw [HE.out]; rfl, below_then hW hB⟩
  | true =>
  replace P4 := P4.out rfl
  replace P5 := P5.out rfl
  go_upto_region 3 with (first | (refine wpList_load_row rfl 29 (.tmp 1) rfl g rfl 29 #[.int .i64 yr, .int .i64 mo, .int .i64 ba, l, n, .int .i64 fe, .int .i64 re, .int .i64 ta, .int .i64 ad, .int .i64 cu, .int .i64 t0, .int .i64 t1, .int .i64 t2, .int .i64 t3, .int .i64 t4, a, b, c] (0, 0) _ bg Try.underlying29 rfl SZ ?_) | (with_reducible refine P1.out _ _ (fun w1 bn => ?_); replace hB := below_then hB bn; replace bg := bg.then bn; have c3 := bg.cell 3 _ rfl) | (with_reducible refine P2.out _ _ hB (fun w2 bn => ?_); replace hB := below_then hB bn; replace bg := bg.then bn; have c4 := bg.cell 4 _ rfl) | (with_reducible refine P3.out _ _ hB (fun w3 bn => ?_); replace hB := below_then hB bn; replace bg := bg.then bn))
  have c3 := bg.cell 3 _ rfl
  go_upto_region 4 with (first
    | (with_reducible refine P4 _ _ hB (fun v1 w4 r1 bn => ?_); replace hB := below_then hB bn; replace bg := bg.then bn)
    | (with_reducible refine P6.out _ _ _ r1 ?_))
  have c4 := bg.cell 4 _ rfl
  go_upto_region 5 with (first
    | (with_reducible refine P5 _ _ hB (fun v2 w5 r2 bn => ?_); replace hB := below_then hB bn; replace bg := bg.then bn)
    | (with_reducible refine P7.out _ _ _ r2 ?_))
  clear P1 P2 P3 P4 P5 P6 P7 r1 r2 c3 c4
  cases S1 with
  | none =>
    have HE : Hid (V = false) := HV.out.symm
    clear HV
    go_wp2_with (fail)
    go_ret
    exact ⟨by rw [HE.out]; rfl, below_then hW hB⟩
  | some z1 =>
  cases S2 with
  | none =>
    have HE : Hid (V = false) := HV.out.symm
    clear HV
    go_wp2_with (fail)
    go_ret
    exact ⟨by rw [HE.out]; rfl, below_then hW hB⟩
  | some z2 =>
  by_cases g1 : z1 ≤ 1099511627776
  case neg =>
    have HE : Hid (V = false) := by show V = false; rw [← HV.out]; simp [g1]
    clear HV
    go_wp2_with (fail)
    go_ret
    exact ⟨by rw [HE.out]; rfl, below_then hW hB⟩
  by_cases g2 : z2 ≤ z1
  case neg =>
    have HE : Hid (V = false) := by show V = false; rw [← HV.out]; simp [g2]
    clear HV
    go_wp2_with (fail)
    go_ret
    exact ⟨by rw [HE.out]; rfl, below_then hW hB⟩
  have HE : Hid (A4 = V) := by show A4 = V; rw [← HV.out]; simp [g1, g2]
  clear HV
  go_wp2_with (first
    | (refine wpList_load_met (by rfl) 29 (.tmp 1) rfl g rfl 29 #[.int .i64 yr, .int .i64 mo, .int .i64 ba, l, n, .int .i64 fe, .int .i64 re, .int .i64 ta, .int .i64 ad, .int .i64 cu, .int .i64 t0, .int .i64 t1, .int .i64 t2, .int .i64 t3, .int .i64 t4, a, b, c] (0, 0) _ bg Try.underlying29 rfl SZ ?_)
    | (with_reducible refine P8.out _ _ hB (fun w6 bn => ?_); replace hB := below_then hB bn; replace bg := bg.then bn))
  go_ret
  exact ⟨by rw [HE.out]; rfl, below_then hW hB⟩

theorem pool_any (l n a b c : Value) (d : DealT) (w : World) (h : DealIn w l n a b c d) :
    Calls Try.prog 9 #[d.t.v l n a b c] w fun e w' => e = .returned (.int .i64 d.pool) ∧ Below w.heap.size w w' := by
  unfold DealT.pool
  obtain ⟨A, hA⟩ : ∃ A, d.ok = A := ⟨_, rfl⟩
  have e1 : ∀ wx, DealIn wx l n a b c d → Calls Try.prog 8 #[d.t.v l n a b c] wx fun e w' => e = .returned (.bool A) ∧ Below wx.heap.size wx w' := fun wx hx => by rw [← hA]; exact dright_any l n a b c d wx hx
  have hlen : A = true → d.ls.length ≤ 1000 := fun e => by
    rw [e] at hA
    simp only [DealT.ok, Bool.and_eq_true] at hA
    have := loansP_len hA.1.1.1.1.1.1.2
    omega
  rw [hA]
  have hS : ∀ (v : Value) (w : World), Reads w v (d.ls.map LnT.bal) → Calls Try.prog 24 #[v] w fun e w' => e = .returned (.int .i64 (d.lent.getD 0)) ∧ w' = w := fun v w r => dsum_any v _ w r
  generalize d.lent.getD 0 = S at hS ⊢
  clear hA
  obtain ⟨t, ht⟩ : ∃ t, d.t = t := ⟨_, rfl⟩; rw [ht] at e1 ⊢; clear ht; obtain ⟨yr, mo, ba, fe, re, ta, ad, cu, t0, t1, t2, t3, t4⟩ := t; unfold NumT.v at e1 ⊢; simp only at e1 ⊢
  go_enter Try.func9, Try.ntmps9
  go_upto_region 1 with fail
  refine wp_letter (fun wx => ∃ g, w.heap.size = g ∧ Blk wx g 29 (NumT.f ⟨yr, mo, ba, fe, re, ta, ad, cu, t0, t1, t2, t3, t4⟩ l n a b c) ∧ Below w.heap.size w wx) ⟨_, rfl, Blk.fresh _ _ (NumT.f ⟨yr, mo, ba, fe, re, ta, ad, cu, t0, t1, t2, t3, t4⟩ l n a b c), below_alloc (Below.refl _ _) _⟩ ?_
  rintro W ⟨g, eg, bg, hW⟩
  rw [eg]
  clear eg
  have H : DealIn W l n a b c d := h.below hW
  have hB : Below W.heap.size W W := Below.refl _ _
  have P1 : Hid (∀ (w : World) (R : Ending → World → Prop), Below W.heap.size W w → (∀ w', Below w.heap.size w w' → R (.returned (.bool A)) w') → Calls Try.prog 8 #[.agg #[.int .i64 yr, .int .i64 mo, .int .i64 ba, l, n, .int .i64 fe, .int .i64 re, .int .i64 ta, .int .i64 ad, .int .i64 cu, .int .i64 t0, .int .i64 t1, .int .i64 t2, .int .i64 t3, .int .i64 t4, a, b, c]] w R) := fun w R k h => (e1 w (H.below k)).mono (by rintro e w' ⟨rfl, d⟩; exact h w' d)
  have P2 : Hid (A = true → ∀ (w : World) (R : Ending → World → Prop), Below W.heap.size W w → (∀ v w', Reads w' v (d.ls.map LnT.bal) → Below w.heap.size w w' → R (.returned v) w') → Calls Try.prog 21 #[l] w R) := fun q w R k h => (balances_any l d.ls w (H.ls.below k) (hlen q)).mono (by rintro e w' ⟨v, rfl, r, d⟩; exact h v w' r d)
  have P3 : Hid (∀ (v : Value) (w : World) (R : Ending → World → Prop), Reads w v (d.ls.map LnT.bal) → R (.returned (.int .i64 S)) w → Calls Try.prog 24 #[v] w R) := fun v w R r h => (hS v w r).mono (by rintro e w' ⟨rfl, rfl⟩; exact h)
  have SZ : (Try.prog.info? 29).map (·.size) = some (18 : Nat) := by kernel_rfl
  clear h H e1 hlen hS
  cases A with
  | false =>
    go_wp2_with (first | (refine wpList_load_row rfl 29 (.tmp 1) rfl g rfl 29 #[.int .i64 yr, .int .i64 mo, .int .i64 ba, l, n, .int .i64 fe, .int .i64 re, .int .i64 ta, .int .i64 ad, .int .i64 cu, .int .i64 t0, .int .i64 t1, .int .i64 t2, .int .i64 t3, .int .i64 t4, a, b, c] (0, 0) _ bg Try.underlying29 rfl SZ ?_) | (with_reducible refine P1.out _ _ hB (fun w1 bn => ?_); replace hB := below_then hB bn; replace bg := bg.then bn))
    go_ret
    exact ⟨rfl, below_then hW hB⟩
  | true =>
    replace P2 := P2.out rfl
    go_wp2_with (first
      | (refine wpList_load_row rfl 29 (.tmp 1) rfl g rfl 29 #[.int .i64 yr, .int .i64 mo, .int .i64 ba, l, n, .int .i64 fe, .int .i64 re, .int .i64 ta, .int .i64 ad, .int .i64 cu, .int .i64 t0, .int .i64 t1, .int .i64 t2, .int .i64 t3, .int .i64 t4, a, b, c] (0, 0) _ bg Try.underlying29 rfl SZ ?_)
      | (with_reducible refine P1.out _ _ hB (fun w1 bn => ?_); replace hB := below_then hB bn; replace bg := bg.then bn; have c3 := bg.cell 3 _ rfl)
      | (with_reducible refine P2 _ _ hB (fun v1 w2 r1 bn => ?_); replace hB := below_then hB bn; replace bg := bg.then bn)
      | (with_reducible refine P3.out _ _ _ r1 ?_))
    go_ret
    exact ⟨rfl, below_then hW hB⟩
theorem notes_any (l n a b c : Value) (d : DealT) (w : World) (h : DealIn w l n a b c d) :
    Calls Try.prog 10 #[d.t.v l n a b c] w fun e w' => e = .returned (.int .i64 d.notes) ∧ Below w.heap.size w w' := by
  unfold DealT.notes
  obtain ⟨A, hA⟩ : ∃ A, d.ok = A := ⟨_, rfl⟩
  have e1 : ∀ wx, DealIn wx l n a b c d → Calls Try.prog 8 #[d.t.v l n a b c] wx fun e w' => e = .returned (.bool A) ∧ Below wx.heap.size wx w' := fun wx hx => by rw [← hA]; exact dright_any l n a b c d wx hx
  have hlen : A = true → d.ns.length ≤ 1000 := fun e => by
    rw [e] at hA
    simp only [DealT.ok, Bool.and_eq_true] at hA
    have := notesP_len hA.1.1.1.1.1.2
    omega
  rw [hA]
  have hS : ∀ (v : Value) (w : World), Reads w v (d.ns.map TrT.og) → Calls Try.prog 24 #[v] w fun e w' => e = .returned (.int .i64 (d.issued.getD 0)) ∧ w' = w := fun v w r => dsum_any v _ w r
  generalize d.issued.getD 0 = S at hS ⊢
  clear hA
  obtain ⟨t, ht⟩ : ∃ t, d.t = t := ⟨_, rfl⟩; rw [ht] at e1 ⊢; clear ht; obtain ⟨yr, mo, ba, fe, re, ta, ad, cu, t0, t1, t2, t3, t4⟩ := t; unfold NumT.v at e1 ⊢; simp only at e1 ⊢
  go_enter Try.func10, Try.ntmps10
  go_upto_region 1 with fail
  refine wp_letter (fun wx => ∃ g, w.heap.size = g ∧ Blk wx g 29 (NumT.f ⟨yr, mo, ba, fe, re, ta, ad, cu, t0, t1, t2, t3, t4⟩ l n a b c) ∧ Below w.heap.size w wx) ⟨_, rfl, Blk.fresh _ _ (NumT.f ⟨yr, mo, ba, fe, re, ta, ad, cu, t0, t1, t2, t3, t4⟩ l n a b c), below_alloc (Below.refl _ _) _⟩ ?_
  rintro W ⟨g, eg, bg, hW⟩
  rw [eg]
  clear eg
  have H : DealIn W l n a b c d := h.below hW
  have hB : Below W.heap.size W W := Below.refl _ _
  have P1 : Hid (∀ (w : World) (R : Ending → World → Prop), Below W.heap.size W w → (∀ w', Below w.heap.size w w' → R (.returned (.bool A)) w') → Calls Try.prog 8 #[.agg #[.int .i64 yr, .int .i64 mo, .int .i64 ba, l, n, .int .i64 fe, .int .i64 re, .int .i64 ta, .int .i64 ad, .int .i64 cu, .int .i64 t0, .int .i64 t1, .int .i64 t2, .int .i64 t3, .int .i64 t4, a, b, c]] w R) := fun w R k h => (e1 w (H.below k)).mono (by rintro e w' ⟨rfl, d⟩; exact h w' d)
  have P2 : Hid (A = true → ∀ (w : World) (R : Ending → World → Prop), Below W.heap.size W w → (∀ v w', Reads w' v (d.ns.map TrT.og) → Below w.heap.size w w' → R (.returned v) w') → Calls Try.prog 22 #[n] w R) := fun q w R k h => (originals_any n d.ns w (H.ns.below k) (hlen q)).mono (by rintro e w' ⟨v, rfl, r, d⟩; exact h v w' r d)
  have P3 : Hid (∀ (v : Value) (w : World) (R : Ending → World → Prop), Reads w v (d.ns.map TrT.og) → R (.returned (.int .i64 S)) w → Calls Try.prog 24 #[v] w R) := fun v w R r h => (hS v w r).mono (by rintro e w' ⟨rfl, rfl⟩; exact h)
  have SZ : (Try.prog.info? 29).map (·.size) = some (18 : Nat) := by kernel_rfl
  clear h H e1 hlen hS
  cases A with
  | false =>
    go_wp2_with (first | (refine wpList_load_row rfl 29 (.tmp 1) rfl g rfl 29 #[.int .i64 yr, .int .i64 mo, .int .i64 ba, l, n, .int .i64 fe, .int .i64 re, .int .i64 ta, .int .i64 ad, .int .i64 cu, .int .i64 t0, .int .i64 t1, .int .i64 t2, .int .i64 t3, .int .i64 t4, a, b, c] (0, 0) _ bg Try.underlying29 rfl SZ ?_) | (with_reducible refine P1.out _ _ hB (fun w1 bn => ?_); replace hB := below_then hB bn; replace bg := bg.then bn))
    go_ret
    exact ⟨rfl, below_then hW hB⟩
  | true =>
    replace P2 := P2.out rfl
    go_wp2_with (first
      | (refine wpList_load_row rfl 29 (.tmp 1) rfl g rfl 29 #[.int .i64 yr, .int .i64 mo, .int .i64 ba, l, n, .int .i64 fe, .int .i64 re, .int .i64 ta, .int .i64 ad, .int .i64 cu, .int .i64 t0, .int .i64 t1, .int .i64 t2, .int .i64 t3, .int .i64 t4, a, b, c] (0, 0) _ bg Try.underlying29 rfl SZ ?_)
      | (with_reducible refine P1.out _ _ hB (fun w1 bn => ?_); replace hB := below_then hB bn; replace bg := bg.then bn; have c4 := bg.cell 4 _ rfl)
      | (with_reducible refine P2 _ _ hB (fun v1 w2 r1 bn => ?_); replace hB := below_then hB bn; replace bg := bg.then bn)
      | (with_reducible refine P3.out _ _ _ r1 ?_))
    go_ret
    exact ⟨rfl, below_then hW hB⟩
end Go.Proofs.Ytamdmicdieeolaa
