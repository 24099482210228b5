/-
  The walk of SheetZero.
-/
import Derived.Test.YtolbgemaildbkaaZeroP
import Derived.Test.YtolbgemaildbkaaSheetRunsWalk
import Derived.Test.YtolbgemaildbkaaBook
namespace Go.Proofs.Ytolbgemaildbkaa
open Go.RowKit

theorem within_to {n lo hi r : Int} (l0 : -4611686018427387904 ≤ lo) (h : lo ≤ hi) (h1 : hi ≤ 4611686018427387903) (d : hi - lo ≤ 4611686018427387903) (e : lo + n % (hi - lo + 1) = r) (w : World) :
    Calls Try.prog 14 #[.int .i64 n, .int .i64 lo, .int .i64 hi] w fun e w' => e = .returned (.int .i64 r) ∧ w' = w := by
  subst e
  exact within_any n lo hi l0 h h1 d w
/-- The k-th number of a slice of numbers. -/
theorem Lies.int {w : World} {a : Option Addr} {n cap : Nat} {zs : List Int} (h : Lies 1 intF w (.slice a n cap) zs) (k : Nat) (hk : k < n) :
    ∃ b off, a = some ⟨b, off, none⟩ ∧ w.cell? ⟨b, off + k, none⟩ = some (.int .i64 (zs.getD k 0)) := by
  obtain ⟨b, off, rfl, hc⟩ := h.place (by omega)
  have hl := h.len
  have hx : zs[k]? = some (zs[k]'(by omega)) := List.getElem?_eq_getElem (by omega)
  have c := hc k _ hx 0 _ rfl
  rw [Nat.mul_one, Nat.add_zero] at c
  refine ⟨b, off, rfl, ?_⟩
  rw [c, List.getD_eq_getElem?_getD, hx]
  rfl
theorem within_bd (n lo hi : Int) (h : lo ≤ hi) : lo ≤ lo + n % (hi - lo + 1) ∧ lo + n % (hi - lo + 1) ≤ hi := by
  have h1 := Int.emod_nonneg n (b := hi - lo + 1) (by omega)
  have h2 := Int.emod_lt_of_pos n (b := hi - lo + 1) (by omega)
  omega
theorem make_six (wx : World) : (Instr.makeSlice 29 (.int .i64 6) (.int .i64 6)).run Try.prog wx = .ok (.slice (some ⟨wx.heap.size, 0, none⟩) 6 6) (wx.alloc (.cells ((List.replicate 6 0).map (Value.int .i64)).toArray 3)) := by
  obtain ⟨i0, hi, hz0, hz1, hz2⟩ := info_parts Try.info_ints
  have := run_make (P := Try.prog) wx 29 3 i0 (.int .i64 0) Try.underlying29 hi hz0 .i64 .i64 6 6 (by omega) (Int.le_refl _) (by rw [hz2]; omega) (by omega)
  rw [this, hz1]
  have e : madeCells (Value.int .i64 0).cells ((6 : Int).toNat * 1) = ((List.replicate 6 0).map (Value.int .i64)).toArray := by kernel_rfl
  rw [e]
  rfl

theorem run_min_four {P : Program} (ts : Array TypeId) (t : TypeId) (a b c d : Nat) (w : World) : (Builtin.min_ ts t #[.int .i64 (a : Int), .int .i64 (b : Int), .int .i64 (c : Int), .int .i64 (d : Int)]).run P w = .ok (.int .i64 ((min (min (min a b) c) d : Nat) : Int)) w := by
  simp [Builtin.min_, Builtin.min2]
  omega

structure ZAp (w : World) (A B gw : Nat) : Prop where
  a : w.heap.size ≤ A
  b : w.heap.size ≤ B
  g : w.heap.size ≤ gw
  ab : A ≠ B
  ga : gw ≠ A
  gb : gw ≠ B
/-- Two sheets, and what each account is to have. -/
structure ZSt (w wx : World) (A B gw : Nat) (L : List Int) (c : Int) (M : List Int) (d : Int) (W : List Int) : Prop where
  below : Below w.heap.size w wx
  sA : Sht wx A 6 L c
  sB : Sht wx B 6 M d
  want : Blk wx gw 3 (W.map (Value.int .i64))
section
variable {w wx wy : World} {A B gw : Nat} {L L' : List Int} {c c' : Int} {M : List Int} {d : Int} {W : List Int}
theorem ZSt.then (h : ZSt w wx A B gw L c M d W) (k : Below wx.heap.size wx wy) : ZSt w wy A B gw L c M d W := ⟨below_then h.below k, h.sA.then k, h.sB.then k, h.want.then k⟩
theorem ZSt.onA (h : ZSt w wx A B gw L c M d W) (p : ZAp w A B gw) (k : Rest A wx wy) (s : Sht wy A 6 L' c') : ZSt w wy A B gw L' c' M d W := ⟨k.below h.below p.a h.below.size, s, h.sB.rest k p.ab.symm, h.want.rest k p.ga⟩
theorem ZSt.onB (h : ZSt w wx A B gw L c M d W) (p : ZAp w A B gw) (k : Rest B wx wy) (s : Sht wy B 6 L' c') : ZSt w wy A B gw L c L' c' W := ⟨k.below h.below p.b h.below.size, h.sA.rest k p.ab, s, h.want.rest k p.gb⟩
theorem ZSt.onW (h : ZSt w wx A B gw L c M d W) (p : ZAp w A B gw) (i : Nat) (x : Int) : ZSt w (wx.setCell ⟨gw, i, none⟩ (.int .i64 x)) A B gw L c M d (W.set i x) :=
  ⟨h.below.setCell p.g _, h.sA.rest (Rest.set gw i wx _) p.ga.symm, h.sB.rest (Rest.set gw i wx _) p.gb.symm, by rw [List.map_set]; exact h.want.set i _⟩
theorem ZSt.at (h : ZSt w wx A B gw L c M d W) (i : Nat) (hi : i < W.length) : wx.cell? ⟨gw, i, none⟩ = some (.int .i64 (W.getD i 0)) ∧ wx.frozen? ⟨gw, i, none⟩ = false :=
  ⟨h.want.cell i _ (by rw [List.getElem?_map, List.getElem?_eq_getElem hi]; simp [hi]), h.want.frozen i⟩
end
theorem reads_blk {w : World} {g : Nat} {t : TypeId} {W : List Int} {n : Nat} (h : Blk w g t (W.map (Value.int .i64))) (hn : W.length = n) (hm : n ≤ maxLen) : Reads w (.slice (some ⟨g, 0, none⟩) n n) W := by
  subst hn
  refine ⟨_, W.length, rfl, Nat.le_refl _, hm, Or.inr ⟨g, 0, rfl, fun i hi => ?_⟩⟩
  rw [Nat.zero_add]
  exact h.cell i _ (by rw [List.getElem?_map, List.getElem?_eq_getElem hi]; simp [hi])
theorem sum_take_next (W : List Int) (q : Nat) (h : q < W.length) : (W.take (q + 1)).sum = (W.take q).sum + W.getD q 0 := by
  have : W.take (q + 1) = W.take q ++ [W.getD q 0] := by
    rw [List.take_succ_eq_append_getElem h]
    simp [h]
  rw [this, List.sum_append]
  simp
theorem sum_take_bd (W : List Int) (C : Int) (h0 : 0 ≤ C) (h : ∀ x ∈ W, -C ≤ x ∧ x ≤ C) : ∀ q, -(q * C) ≤ (W.take q).sum ∧ (W.take q).sum ≤ q * C := by
  induction W with
  | nil =>
    intro q
    have : 0 ≤ (q : Int) * C := Int.mul_nonneg (by omega) h0
    simp
    omega
  | cons a r ih =>
    intro q
    match q with
    | 0 => simp
    | q + 1 =>
      have h1 := h a (by simp)
      have h2 := ih (fun x hx => h x (by simp [hx])) q
      rw [List.take_succ_cons, List.sum_cons, Int.natCast_add, Int.add_mul]
      simp
      omega
/-- Behind so many moves of each. -/
def ZInv (F T X : Nat → Int) (w wr : World) (A B gw n k i : Nat) : Prop := ZSt w wr A B gw (addAll (List.replicate 64 0) (mvs F T X (turn n 0 i))) i (addAll (List.replicate 64 0) (mvs F T X (turn n k i))) i (addAll (List.replicate 6 0) (mvs F T X (turn n 0 i)))
theorem want_next (F T X : Nat → Int) (n i : Nat) (hi : i < n) (f t : Nat) (x : Int) (hf : F i = f) (ht : T i = t) (hx : X i = x) (W : List Int) (hW : addAll (List.replicate 6 0) (mvs F T X (turn n 0 i)) = W) :
    (W.set f (W.getD f 0 - x)).set t ((W.set f (W.getD f 0 - x)).getD t 0 + x) = addAll (List.replicate 6 0) (mvs F T X (turn n 0 (i + 1))) := by
  rw [turn_next, mvs_append, addAll_append, hW, Nat.add_zero, Nat.mod_eq_of_lt hi]
  simp only [mvs, List.flatMap_cons, List.flatMap_nil, List.append_nil, moveE, hf, ht, hx, addAll, Int.toNat_natCast]
  rfl
theorem want_bd {F T X : Nat → Int} (hF : ∀ i, 0 ≤ F i ∧ F i < 6) (hT : ∀ i, 0 ≤ T i ∧ T i < 6) (hX : ∀ i, 0 ≤ X i ∧ X i ≤ 1125899906842624) (l : List Nat) (hl : l.length ≤ 25) : ∀ x ∈ addAll (List.replicate 6 0) (mvs F T X l), -56294995342131200 ≤ x ∧ x ≤ 56294995342131200 := fun x hx => by
  have := (mvs_small hF hT hX l).add 0 (zeros_bd 6) (by omega) x hx
  rw [mvs_length] at this
  omega

set_option maxRecDepth 1000000 in
set_option maxHeartbeats 4000000 in
theorem sheetZero_any (v0 v1 v2 v3 : Value) (w : World) (w0 : Arg w (.slice 1 (.int .i64)) v0) (w1 : Arg w (.slice 1 (.int .i64)) v1) (w2 : Arg w (.slice 1 (.int .i64)) v2) (w3 : Arg w (.int .i64) v3) :
    Calls Try.prog 5 #[v0, v1, v2, v3] w fun e w' => e = .returned (.bool true) ∧ Below w.heap.size w w' := by
  obtain ⟨z0, hL0, _⟩ := arg_ints w0
  obtain ⟨z1, hL1, _⟩ := arg_ints w1
  obtain ⟨z2, hL2, _⟩ := arg_ints w2
  obtain ⟨cut, rfl, _⟩ := arg_int w3
  obtain ⟨a0, c0, rfl, _, _, _, _⟩ := id hL0
  obtain ⟨a1, c1, rfl, _, _, _, _⟩ := id hL1
  obtain ⟨a2, c2, rfl, _, _, _, _⟩ := id hL2
  have l0 := hL0.len
  have l1 := hL1.len
  have l2 := hL2.len
  unfold maxLen at l0 l1 l2
  generalize hn0 : z0.length = n0 at *
  generalize hn1 : z1.length = n1 at *
  generalize hn2 : z2.length = n2 at *
  have H0 : Hid (Lies 1 intF w (.slice a0 n0 c0) z0) := hL0
  have H1 : Hid (Lies 1 intF w (.slice a1 n1 c1) z1) := hL1
  have H2 : Hid (Lies 1 intF w (.slice a2 n2 c2) z2) := hL2
  have m0 : n0 ≤ 9223372036854775807 := by omega
  have m1 : n1 ≤ 9223372036854775807 := by omega
  have m2 : n2 ≤ 9223372036854775807 := by omega
  clear w0 w1 w2 w3 hL0 hL1 hL2 l0 l1 l2
  have en : accN 6 = 6 := by decide
  go_enter Try.func5, Try.ntmps5
  go_upto_region 4 with (go_at_call 8; refine (new_any _ _).mono ?_; first | (have _mark := SA1; rintro e wb ⟨rfl, sb, bb⟩; rw [en] at sb) | (rintro e wa ⟨rfl, sa, ba⟩; have SA1 := Hid (1 = 1); rw [en] at sa))
  obtain ⟨A, hA⟩ : ∃ A, w.heap.size = A := ⟨_, rfl⟩
  obtain ⟨B, hB⟩ : ∃ B, wa.heap.size = B := ⟨_, rfl⟩
  have hAB : A ≠ B := by rw [← hB]; exact Nat.ne_of_lt (by rw [← hA]; exact sa.lt)
  have hA0 : w.heap.size ≤ A := Nat.le_of_eq hA
  have hB0 : w.heap.size ≤ B := by rw [← hB]; exact ba.size
  rw [hA] at sa
  rw [hA, hB]
  rw [hB] at sb
  have sa2 := sa.then bb
  have b2 := below_then ba bb
  clear sa ba bb hA hB SA1
  have S2 : Hid (Sht wb A 6 (List.replicate 64 0) 0 ∧ Sht wb B 6 (List.replicate 64 0) 0 ∧ Below w.heap.size w wb) := ⟨sa2, sb, b2⟩
  clear sa2 sb b2 en
  obtain ⟨n, hn⟩ : ∃ n : Nat, min (min (min n0 n1) n2) 25 = n := ⟨_, rfl⟩
  have hmin : ∀ wx, (Builtin.min_ #[3, 3, 3, 3] 3 #[.int .i64 (n0 : Int), .int .i64 (n1 : Int), .int .i64 (n2 : Int), .int .i64 25]).run Try.prog wx = .ok (.int .i64 (n : Int)) wx := fun wx => by
    rw [← hn]
    exact run_min_four _ _ n0 n1 n2 25 wx
  have g0 : n ≤ n0 := by omega
  have g1 : n ≤ n1 := by omega
  have g2 : n ≤ n2 := by omega
  have g3 : n ≤ 25 := by omega
  clear hn
  obtain ⟨k, hk⟩ := Int.eq_ofNat_of_zero_le (Int.emod_nonneg cut (b := (n : Int) - 0 + 1) (by omega))
  have hkl : k ≤ n := by
    have := Int.emod_lt_of_pos cut (b := (n : Int) - 0 + 1) (by omega)
    omega
  have E0 : Hid (0 + cut % ((n : Int) - 0 + 1) = (k : Int)) := by show _ = _; rw [hk]; simp
  clear hk
  have mk6 := make_six
  go_upto_region 7 with (go_at_call 14; refine (within_to (by omega) (by omega) (by omega) (by omega) E0.out _).mono ?_; rintro e wq ⟨rfl, hq⟩; have hq := hq.symm; subst hq)
  clear mk6 hmin E0
  obtain ⟨F, hF⟩ : ∃ F : Nat → Int, ∀ i, 0 + z0.getD i 0 % (5 - 0 + 1) = F i := ⟨_, fun _ => rfl⟩
  obtain ⟨T, hT⟩ : ∃ T : Nat → Int, ∀ i, 0 + z1.getD i 0 % (5 - 0 + 1) = T i := ⟨_, fun _ => rfl⟩
  obtain ⟨X, hX⟩ : ∃ X : Nat → Int, ∀ i, 0 + z2.getD i 0 % (1125899906842624 - 0 + 1) = X i := ⟨_, fun _ => rfl⟩
  have HF : Hid (∀ i, 0 + z0.getD i 0 % (5 - 0 + 1) = F i) := hF
  have HT : Hid (∀ i, 0 + z1.getD i 0 % (5 - 0 + 1) = T i) := hT
  have HX : Hid (∀ i, 0 + z2.getD i 0 % (1125899906842624 - 0 + 1) = X i) := hX
  have bF : Hid (∀ i, 0 ≤ F i ∧ F i < 6) := fun i => by have := within_bd (z0.getD i 0) 0 5 (by omega); rw [hF i] at this; omega
  have bT : Hid (∀ i, 0 ≤ T i ∧ T i < 6) := fun i => by have := within_bd (z1.getD i 0) 0 5 (by omega); rw [hT i] at this; omega
  have bX : Hid (∀ i, 0 ≤ X i ∧ X i ≤ 1125899906842624) := fun i => by have := within_bd (z2.getD i 0) 0 1125899906842624 (by omega); rw [hX i] at this; exact this
  clear hF hT hX
  obtain ⟨gw, hgw⟩ : ∃ gw, wb.heap.size = gw := ⟨_, rfl⟩
  have hla := S2.out.1.lt
  have hlb := S2.out.2.1.lt
  have HAp : Hid (ZAp w A B gw) := ⟨hA0, hB0, by have := S2.out.2.2.size; omega, hAB, by omega, by omega⟩
  have hI0 : ZInv F T X w (wb.alloc (.cells ((List.replicate 6 0).map (Value.int .i64)).toArray 3)) A B gw n k 0 := ⟨below_alloc S2.out.2.2 _, S2.out.1.then (below_alloc (Below.refl _ _) _), S2.out.2.1.then (below_alloc (Below.refl _ _) _), by rw [← hgw]; exact Blk.fresh _ _ _⟩
  rw [hgw]
  clear S2 hla hlb hA0 hB0 hAB hgw
  go_wp2_with fail
  go_loopw [14] (fun v wr => ∃ i : Nat, i ≤ n ∧ v = .int .i64 i ∧ ZInv F T X w wr A B gw n k i) (fun v _ => n - (intOf v).toNat)
  case atStart => exact ⟨0, by omega, rfl, hI0⟩
  case round =>
  clear hI0
  obtain ⟨i, hi, rfl, hI⟩ := hrel
  have HI : Hid (ZInv F T X w wr A B gw n k i) := hI
  clear hI
  by_cases hlt : i < n
  · obtain ⟨j, hj⟩ : ∃ j, (i + k) % n = j := ⟨_, rfl⟩
    have hjn : j < n := by rw [← hj]; exact Nat.mod_lt _ (by omega)
    have ej : Int.tmod ((i : Int) + (k : Int)) (n : Int) = (j : Int) := by
      rw [Int.tmod_eq_emod_of_nonneg (by omega), ← hj]
      simp
    have ezn : ((n : Int) == 0) = false := by simp; omega
    have HJ : Hid ((i + k) % n = j) := hj
    clear hj
    obtain ⟨b0, o0, rfl, d0⟩ := H0.out.int i (by omega)
    obtain ⟨b1, o1, rfl, d1⟩ := H1.out.int i (by omega)
    obtain ⟨b2, o2, rfl, d2⟩ := H2.out.int i (by omega)
    obtain ⟨b0', o0', q0, e0⟩ := H0.out.int j (by omega)
    obtain ⟨b1', o1', q1, e1⟩ := H1.out.int j (by omega)
    obtain ⟨b2', o2', q2, e2⟩ := H2.out.int j (by omega)
    simp only [Option.some.injEq, Addr.mk.injEq, and_true] at q0 q1 q2
    obtain ⟨rfl, rfl⟩ := q0
    obtain ⟨rfl, rfl⟩ := q1
    obtain ⟨rfl, rfl⟩ := q2
    have x1 := HF.out i; have x2 := HT.out i; have x3 := HX.out i
    have x4 := HF.out j; have x5 := HT.out j; have x6 := HX.out j
    obtain ⟨fi, hfi⟩ := Int.eq_ofNat_of_zero_le (bF.out i).1
    obtain ⟨ti, hti⟩ := Int.eq_ofNat_of_zero_le (bT.out i).1
    obtain ⟨fj, hfj⟩ := Int.eq_ofNat_of_zero_le (bF.out j).1
    obtain ⟨tj, htj⟩ := Int.eq_ofNat_of_zero_le (bT.out j).1
    obtain ⟨xi, hxi⟩ : ∃ xi, X i = xi := ⟨_, rfl⟩
    obtain ⟨xj, hxj⟩ : ∃ xj, X j = xj := ⟨_, rfl⟩
    have f6 := (bF.out i).2; have t6 := (bT.out i).2; have xb := bX.out i
    rw [hfi] at x1 f6
    rw [hti] at x2 t6
    rw [hxi] at x3 xb
    rw [hfj] at x4
    rw [htj] at x5
    rw [hxj] at x6
    generalize z0.getD i 0 = p0 at d0 x1
    generalize z1.getD i 0 = p1 at d1 x2
    generalize z2.getD i 0 = p2 at d2 x3
    generalize z0.getD j 0 = r0 at e0 x4
    generalize z1.getD j 0 = r1 at e1 x5
    generalize z2.getD j 0 = r2 at e2 x6
    have E1 : Hid (0 + p0 % (5 - 0 + 1) = (fi : Int)) := x1
    have E2 : Hid (0 + p1 % (5 - 0 + 1) = (ti : Int)) := x2
    have E3 : Hid (0 + p2 % (1125899906842624 - 0 + 1) = xi) := x3
    have E4 : Hid (0 + r0 % (5 - 0 + 1) = (fj : Int)) := x4
    have E5 : Hid (0 + r1 % (5 - 0 + 1) = (tj : Int)) := x5
    have E6 : Hid (0 + r2 % (1125899906842624 - 0 + 1) = xj) := x6
    have HV : Hid (F i = fi ∧ T i = ti ∧ X i = xi ∧ F j = fj ∧ T j = tj ∧ X j = xj) := ⟨hfi, hti, hxi, hfj, htj, hxj⟩
    clear x1 x2 x3 x4 x5 x6 hfi hti hfj htj hxi hxj
    have D : Hid (∀ wx, Below w.heap.size w wx → wx.cell? ⟨b0, o0 + j, none⟩ = some (.int .i64 r0) ∧ wx.cell? ⟨b1, o1 + j, none⟩ = some (.int .i64 r1) ∧ wx.cell? ⟨b2, o2 + j, none⟩ = some (.int .i64 r2)) := fun wx bx => ⟨cell_keep bx e0, cell_keep bx e1, cell_keep bx e2⟩
    replace d0 := cell_keep HI.out.below d0
    replace d1 := cell_keep HI.out.below d1
    replace d2 := cell_keep HI.out.below d2
    clear e0 e1 e2
    have i0 : (0 : Int) ≤ (i : Int) := by omega
    have i1 : (i : Int) < (n0 : Int) := by omega
    have i2 : (i : Int) < (n1 : Int) := by omega
    have i3 : (i : Int) < (n2 : Int) := by omega
    go_upto_region 10 with fail
    go_quiet (first
      | ((go_at_call_of 14 (p0); exact Calls.quiet_of_same (within_to (by omega) (by omega) (by omega) (by omega) E1.out _)))
      | ((go_at_call_of 14 (p1); exact Calls.quiet_of_same (within_to (by omega) (by omega) (by omega) (by omega) E2.out _)))
      | ((go_at_call_of 14 (p2); exact Calls.quiet_of_same (within_to (by omega) (by omega) (by omega) (by omega) E3.out _))))
    go_upto_region 11 with fail
    obtain ⟨W, hW⟩ : ∃ W, addAll (List.replicate 6 0) (mvs F T X (turn n 0 i)) = W := ⟨_, rfl⟩
    have hWl : W.length = 6 := by rw [← hW, addAll_length]; simp
    have hWb := want_bd bF.out bT.out bX.out (turn n 0 i) (by rw [turn_length]; omega)
    have HN := want_next F T X n i hlt fi ti xi HV.out.1 HV.out.2.1 HV.out.2.2.1 W hW
    obtain ⟨La, hLa⟩ : ∃ La, addAll (List.replicate 64 0) (mvs F T X (turn n 0 i)) = La := ⟨_, rfl⟩
    obtain ⟨Lb, hLb⟩ : ∃ Lb, addAll (List.replicate 64 0) (mvs F T X (turn n k i)) = Lb := ⟨_, rfl⟩
    have hI := HI.out
    unfold ZInv at hI
    rw [hW, hLa, hLb] at hI
    rw [hW] at hWb
    refine wp_letter (fun wx => ZSt w wx A B gw La i Lb i W) (hI.then (below_draws (Below.refl _ _) _)) ?_
    clear d0 d1 d2 hI
    intro V hV
    have wfb : -56294995342131200 ≤ W.getD fi 0 ∧ W.getD fi 0 ≤ 56294995342131200 := hWb _ (by simp [List.getD_eq_getElem?_getD, show fi < W.length by omega])
    obtain ⟨c0, k0⟩ := hV.at fi (by omega)
    have hV2 := hV.onW HAp.out fi (W.getD fi 0 - xi)
    have wtb : -112589990684262400 ≤ (W.set fi (W.getD fi 0 - xi)).getD ti 0 ∧ (W.set fi (W.getD fi 0 - xi)).getD ti 0 ≤ 112589990684262400 := by
      have hm : (W.set fi (W.getD fi 0 - xi)).getD ti 0 ∈ W.set fi (W.getD fi 0 - xi) := by simp [List.getD_eq_getElem?_getD, show ti < W.length by omega]
      rcases List.mem_or_eq_of_mem_set hm with h | h
      · have := hWb _ h; omega
      · rw [h]; omega
    obtain ⟨c1, k1⟩ := hV2.at ti (by rw [List.length_set]; omega)
    have hV3 := hV2.onW HAp.out ti ((W.set fi (W.getD fi 0 - xi)).getD ti 0 + xi)
    rw [HN] at hV3
    generalize W.getD fi 0 = wf at *
    generalize (W.set fi (wf - xi)).getD ti 0 = wt at *
    have HV3 : Hid (ZSt w ((V.setCell ⟨gw, fi, none⟩ (.int .i64 (wf - xi))).setCell ⟨gw, ti, none⟩ (.int .i64 (wt + xi))) A B gw La i Lb i (addAll (List.replicate 6 0) (mvs F T X (turn n 0 (i + 1))))) := hV3
    have HLL : Hid (addAll (List.replicate 64 0) (mvs F T X (turn n 0 i)) = La ∧ addAll (List.replicate 64 0) (mvs F T X (turn n k i)) = Lb) := ⟨hLa, hLb⟩
    have C1 : Hid ((V.setCell ⟨gw, fi, none⟩ (.int .i64 (wf - xi))).cell? ⟨gw, ti, none⟩ = some (.int .i64 wt) ∧ (V.setCell ⟨gw, fi, none⟩ (.int .i64 (wf - xi))).frozen? ⟨gw, ti, none⟩ = false) := ⟨c1, k1⟩
    have f60 : (0 : Int) ≤ (fi : Int) := by omega
    have t60 : (0 : Int) ≤ (ti : Int) := by omega
    clear hV hV2 hV3 HN hW hWb hWl hLa hLb c1 k1
    go_upto_region 12 with fail
    refine wp_letter (fun wx => wx = V.setCell ⟨gw, fi, none⟩ (.int .i64 (wf - xi))) rfl ?_
    intro V2 eV2
    have hc1 := C1.out
    rw [← eV2] at HV3 hc1
    obtain ⟨c1, k1⟩ := hc1
    clear eV2 C1 c0 k0
    go_upto_region 13 with fail
    refine wp_letter (fun wx => ZSt w wx A B gw La i Lb i (addAll (List.replicate 6 0) (mvs F T X (turn n 0 (i + 1))))) HV3.out ?_
    clear HV3 c1 k1
    intro Y hY
    obtain ⟨d0, d1, d2⟩ := D.out Y hY.below
    have HY : Hid (ZSt w Y A B gw La i Lb i (addAll (List.replicate 6 0) (mvs F T X (turn n 0 (i + 1))))) := hY
    have j0 : (0 : Int) ≤ (j : Int) := by omega
    have j1 : (j : Int) < (n0 : Int) := by omega
    have j2 : (j : Int) < (n1 : Int) := by omega
    have j3 : (j : Int) < (n2 : Int) := by omega
    clear hY D
    go_upto_region 14 with fail
    go_quiet (first
      | ((go_at_call_of 14 (r0); exact Calls.quiet_of_same (within_to (by omega) (by omega) (by omega) (by omega) E4.out _)))
      | ((go_at_call_of 14 (r1); exact Calls.quiet_of_same (within_to (by omega) (by omega) (by omega) (by omega) E5.out _)))
      | ((go_at_call_of 14 (r2); exact Calls.quiet_of_same (within_to (by omega) (by omega) (by omega) (by omega) E6.out _))))
    have hY2 := HY.out.then (below_draws (Below.refl _ _) nq)
    have MA := mvs_move bF.out bT.out bX.out (turn n 0 i) (by rw [turn_length]; omega) i i
    have MB := mvs_move bF.out bT.out bX.out (turn n k i) (by rw [turn_length]; omega) j i
    have okA := mvs_ok bF.out bT.out bX.out (turn n 0 i) (by rw [turn_length]; omega)
    have okB := mvs_ok bF.out bT.out bX.out (turn n k i) (by rw [turn_length]; omega)
    rw [HLL.out.1, HV.out.1, HV.out.2.1, HV.out.2.2.1] at MA
    rw [HLL.out.2, HV.out.2.2.2.1, HV.out.2.2.2.2.1, HV.out.2.2.2.2.2] at MB
    rw [HLL.out.1] at okA
    rw [HLL.out.2] at okB
    have tA : turn n 0 i ++ [i] = turn n 0 (i + 1) := by rw [turn_next, Nat.add_zero, Nat.mod_eq_of_lt hlt]
    have tB : turn n k i ++ [j] = turn n k (i + 1) := by rw [turn_next, HJ.out]
    rw [tA] at MA
    rw [tB] at MB
    have HMA : Hid (moveB 6 La fi ti xi = true ∧ moveL 6 La fi ti xi = addAll (List.replicate 64 0) (mvs F T X (turn n 0 (i + 1))) ∧ moveC 6 La fi ti xi i = i + 1) := MA
    have HMB : Hid (moveB 6 Lb fj tj xj = true ∧ moveL 6 Lb fj tj xj = addAll (List.replicate 64 0) (mvs F T X (turn n k (i + 1))) ∧ moveC 6 Lb fj tj xj i = i + 1) := MB
    have HOK : Hid ((∀ x ∈ La, amtOk x = true) ∧ ∀ x ∈ Lb, amtOk x = true) := ⟨okA, okB⟩
    have HY2 : Hid (ZSt w (Y.drewN nq) A B gw La i Lb i (addAll (List.replicate 6 0) (mvs F T X (turn n 0 (i + 1))))) := hY2
    clear MA MB okA okB tA tB hY2 HY d0 d1 d2
    go_wp2_with (first
      | (go_at_call_of 9 (A); refine (move_to HY2.out.sA HOK.out.1 (by omega) (by omega) HMA.out.1 HMA.out.2.1 HMA.out.2.2).mono ?_; rintro e w7 ⟨rfl, s7, r7⟩; have H7 := HY2.out.onA HAp.out r7 s7)
      | (go_at_call_of 9 (B); refine (move_to H7.sB HOK.out.2 (by omega) (by omega) HMB.out.1 HMB.out.2.1 HMB.out.2.2).mono ?_; rintro e w8 ⟨rfl, s8, r8⟩; have H8 := H7.onB HAp.out r8 s8))
    go_roundw
    case rel => exact ⟨i + 1, by omega, by go_num, H8⟩
    case measure => simp [intOf]; omega
  · have hin : i = n := by omega
    have hI := HI.out
    rw [hin] at hI
    unfold ZInv at hI
    rw [mvs_turn bF.out bT.out bX.out n k hkl] at hI
    have hsum := addAll_sum (mvs F T X (turn n 0 n)) (List.replicate 6 0) (fun e he => by simpa using (mvs_small bF.out bT.out bX.out _ e he).1)
    rw [mvs_sum] at hsum
    have htk := addAll_take 6 (mvs F T X (turn n 0 n)) (List.replicate 64 0) (fun e he => by simpa using (mvs_small bF.out bT.out bX.out _ e he).1)
    have hWb := want_bd bF.out bT.out bX.out (turn n 0 n) (by rw [turn_length]; omega)
    have e6 : (List.replicate 64 (0 : Int)).take 6 = List.replicate 6 0 := rfl
    rw [e6] at htk
    obtain ⟨L, hL⟩ : ∃ L, addAll (List.replicate 64 0) (mvs F T X (turn n 0 n)) = L := ⟨_, rfl⟩
    obtain ⟨W, hW⟩ : ∃ W, addAll (List.replicate 6 0) (mvs F T X (turn n 0 n)) = W := ⟨_, rfl⟩
    have hWl : W.length = 6 := by rw [← hW, addAll_length]; simp
    rw [hL, hW] at hI
    rw [hW] at hsum hWb
    rw [hL, hW] at htk
    have HIn : Hid (ZSt w wr A B gw L n L n W) := hI
    have HW : Hid (L.take 6 = W ∧ W.sum = 0 ∧ W.length = 6 ∧ ∀ x ∈ W, -56294995342131200 ≤ x ∧ x ≤ 56294995342131200) := ⟨htk, by rw [hsum]; decide, hWl, hWb⟩
    clear hI hsum htk hWb hL hW hWl e6 HI hin
    go_wp2_with (go_at_call 12; refine (balances_any _ _ _ _ _ HIn.out.sA).mono ?_; rintro e w9 ⟨rfl, d9, b9⟩; rw [HW.out.1] at d9)
    have H9 : Hid (ZSt w w9 A B gw L n L n W) := HIn.out.then b9
    obtain ⟨G, hG⟩ : ∃ G, wr.heap.size = G := ⟨_, rfl⟩
    rw [hG] at d9 ⊢
    have HC : Hid (∀ q, q < 6 → w9.cell? ⟨G, 0 + q, none⟩ = some (.int .i64 (W.getD q 0))) := fun q hq => cells_of_reads d9 q (by omega)
    have HS : Hid (∀ q : Nat, -((q : Int) * 56294995342131200) ≤ (W.take q).sum ∧ (W.take q).sum ≤ q * 56294995342131200) := sum_take_bd W _ (by omega) HW.out.2.2.2
    clear hG d9 b9
    go_loop [22, 119] (fun s v => ∃ (q : Nat) (S : Int), q ≤ 6 ∧ v = .int .i64 q ∧ s = .int .i64 S ∧ (W.take q).sum = S) (fun _ v => 6 - (intOf v).toNat)
    case atStart => exact ⟨0, 0, by omega, rfl, rfl, rfl⟩
    case round =>
    obtain ⟨q, S, hq, rfl, rfl, hS⟩ := hrel
    have hb := HS.out q
    rw [hS] at hb
    have s0 : -337769972052787200 ≤ S := by omega
    have s1 : S ≤ 337769972052787200 := by omega
    clear hb
    by_cases hlt2 : q < 6
    · have c := HC.out q hlt2
      rw [Nat.zero_add] at c
      have hn := sum_take_next W q (by rw [HW.out.2.2.1]; exact hlt2)
      have hxb := HW.out.2.2.2 (W.getD q 0) (by simp [List.getD_eq_getElem?_getD, show q < W.length by rw [HW.out.2.2.1]; exact hlt2])
      rw [hS] at hn
      generalize W.getD q 0 = x at *
      have HN : Hid ((W.take (q + 1)).sum = S + x) := hn
      have q1 : (q : Int) < 6 := by omega
      clear hn hS
      go_wp2
      go_round
      case rel => exact ⟨q + 1, S + x, by omega, by go_num, rfl, HN.out⟩
      case measure => simp [intOf]; omega
    · have hS0 : S = 0 := by
        rw [← hS, List.take_of_length_le (by rw [HW.out.2.2.1]; omega)]
        exact HW.out.2.1
      subst hS0
      clear hS HC HS
      go_wp2_with (first
        | (go_at_call_of 12 (B); refine (balances_any _ _ _ _ _ H10.out.sB).mono ?_; rintro e w11 ⟨rfl, d11, b11⟩; rw [HW.out.1] at d11; have H11 : Hid (ZSt w w11 A B gw L n L n W) := H10.out.then b11)
        | (go_at_call_of 12 (A); first | (have _m := MK; refine (balances_any _ _ _ _ _ H12.out.sA).mono ?_; rintro e w13 ⟨rfl, d13, b13⟩; rw [HW.out.1] at d13; have H13 : Hid (ZSt w w13 A B gw L n L n W) := H12.out.then b13) | (refine (balances_any _ _ _ _ _ H9.out.sA).mono ?_; rintro e w10 ⟨rfl, d10, b10⟩; rw [HW.out.1] at d10; have H10 : Hid (ZSt w w10 A B gw L n L n W) := H9.out.then b10; have MK := Hid (1 = 1)))
        | (go_at_call_of 11 (gw); refine (same_any _ _ W _ d13 (reads_blk H13.out.want HW.out.2.2.1 (by unfold maxLen; omega))).mono ?_; rintro e w14 ⟨rfl, m14, rfl⟩; have H14 : Hid (ZSt w (w13.drewN m14) A B gw L n L n W) := H13.out.then (below_draws (Below.refl _ _) _))
        | (go_at_call 11; refine (same_any _ _ W _ (d10.below b11) d11).mono ?_; rintro e w12 ⟨rfl, m12, rfl⟩; have H12 : Hid (ZSt w (w11.drewN m12) A B gw L n L n W) := H11.out.then (below_draws (Below.refl _ _) _))
        | (go_at_call 13; refine (count_any _ _ _ _ _ H14.out.sA).mono ?_; rintro e wq ⟨rfl, hq⟩; have hq := hq.symm; subst hq)
        | (go_at_call 3; refine (sheetRuns_any _).mono ?_; rintro e wz ⟨rfl, bz⟩))
      go_ret
      exact ⟨rfl, below_then H14.out.below bz⟩
end Go.Proofs.Ytolbgemaildbkaa
