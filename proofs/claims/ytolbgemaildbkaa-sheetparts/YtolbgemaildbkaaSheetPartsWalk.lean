/-
  The walk of SheetParts.
-/
import Derived.Test.YtolbgemaildbkaaEven
import Derived.Test.YtolbgemaildbkaaPartP
namespace Go.Proofs.Ytolbgemaildbkaa
open Go.RowKit

theorem Lies.rest {w w' : World} {α : Type} {m : Nat} {f : α → List Value} {g off n c b : Nat} {xs : List α} (h : Lies m f w (.slice (some ⟨g, off, none⟩) n c) xs) (k : Rest b w w') (hb : g ≠ b) : Lies m f w' (.slice (some ⟨g, off, none⟩) n c) xs := by
  obtain ⟨a, cap, e, h1, h2, h3, hz⟩ := h
  refine ⟨a, cap, e, h1, h2, h3, ?_⟩
  simp only [Value.slice.injEq] at e
  rcases hz with h | ⟨b', o', e', hc⟩
  · exact Or.inl h
  · refine Or.inr ⟨b', o', e', fun i x hi j u hj => ?_⟩
    have := hc i x hi j u hj
    have e2 : b' = g := by
      rw [← e.1] at e'
      simp only [Option.some.injEq, Addr.mk.injEq] at e'
      exact e'.1.symm
    subst e2
    exact (World.cell?_of_block (w := w) (a := ⟨b', o' + i * m + j, none⟩) (k.block b' (cell_block this) hb)).trans this
theorem Reads.rest {w w' : World} {g off n c b : Nat} {zs : List Int} (h : Reads w (.slice (some ⟨g, off, none⟩) n c) zs) (k : Rest b w w') (hb : g ≠ b) : Reads w' (.slice (some ⟨g, off, none⟩) n c) zs := by
  obtain ⟨a, cap, e, h1, h2, hz⟩ := h
  refine ⟨a, cap, e, h1, h2, ?_⟩
  simp only [Value.slice.injEq] at e
  rcases hz with h | ⟨b', o', e', hc⟩
  · exact Or.inl h
  · refine Or.inr ⟨b', o', e', fun i hi => ?_⟩
    have := hc i hi
    have e2 : b' = g := by
      rw [← e.1] at e'
      simp only [Option.some.injEq, Addr.mk.injEq] at e'
      exact e'.1.symm
    subst e2
    exact (World.cell?_of_block (w := w) (a := ⟨b', o' + i, none⟩) (k.block b' (cell_block this) hb)).trans this

/-- Two sheets, and two slices of entries apart from them. -/
structure PSt (w wx : World) (A B gx cx : Nat) (xs : List Ent) (gy cy : Nat) (ys : List Ent) (L : List Int) (c : Int) (M : List Int) (d : Int) : Prop where
  below : Below w.heap.size w wx
  sA : Sht wx A 5 L c
  sB : Sht wx B 5 M d
  lx : Lies 2 Ent.f wx (.slice (some ⟨gx, 0, none⟩) xs.length cx) xs
  ly : Lies 2 Ent.f wx (.slice (some ⟨gy, 0, none⟩) ys.length cy) ys
structure PAp (w : World) (A B gx gy : Nat) : Prop where
  a : w.heap.size ≤ A
  b : w.heap.size ≤ B
  ab : A ≠ B
  xa : gx ≠ A
  xb : gx ≠ B
  ya : gy ≠ A
  yb : gy ≠ B
section
variable {w wx wy : World} {A B gx cx : Nat} {xs : List Ent} {gy cy : Nat} {ys : List Ent} {L L' : List Int} {c c' : Int} {M : List Int} {d : Int}
theorem PSt.then (h : PSt w wx A B gx cx xs gy cy ys L c M d) (k : Below wx.heap.size wx wy) : PSt w wy A B gx cx xs gy cy ys L c M d :=
  ⟨below_then h.below k, h.sA.then k, h.sB.then k, h.lx.below k, h.ly.below k⟩
theorem PSt.onA (h : PSt w wx A B gx cx xs gy cy ys L c M d) (p : PAp w A B gx gy) (k : Rest A wx wy) (s : Sht wy A 5 L' c') : PSt w wy A B gx cx xs gy cy ys L' c' M d :=
  ⟨k.below h.below p.a h.below.size, s, h.sB.rest k p.ab.symm, h.lx.rest k p.xa, h.ly.rest k p.ya⟩
theorem PSt.onB (h : PSt w wx A B gx cx xs gy cy ys L c M d) (p : PAp w A B gx gy) (k : Rest B wx wy) (s : Sht wy B 5 L' c') : PSt w wy A B gx cx xs gy cy ys L c L' c' :=
  ⟨k.below h.below p.b h.below.size, h.sA.rest k p.ab, s, h.lx.rest k p.xb, h.ly.rest k p.yb⟩
end

/-- The same, with balances that were told, and an entry beside. -/
structure PQ (w wx : World) (A B gx cx : Nat) (xs : List Ent) (gy cy : Nat) (ys : List Ent) (L : List Int) (c : Int) (M : List Int) (d : Int) (gw Q : Nat) (Z : List Int) (K : Int) : Prop where
  st : PSt w wx A B gx cx xs gy cy ys L c M d
  was : Reads wx (.slice (some ⟨gw, 0, none⟩) 5 5) Z
  q0 : wx.cell? ⟨Q, 0, none⟩ = some (.int .i64 K)
  q1 : wx.cell? ⟨Q, 1, none⟩ = some (.int .i64 0)
structure QAp (A gw Q : Nat) : Prop where
  w : gw ≠ A
  q : Q ≠ A
section
variable {w wx wy : World} {A B gx cx : Nat} {xs : List Ent} {gy cy : Nat} {ys : List Ent} {L L' : List Int} {c c' : Int} {M : List Int} {d : Int} {gw Q : Nat} {Z : List Int} {K : Int}
theorem PQ.then (h : PQ w wx A B gx cx xs gy cy ys L c M d gw Q Z K) (k : Below wx.heap.size wx wy) : PQ w wy A B gx cx xs gy cy ys L c M d gw Q Z K :=
  ⟨h.st.then k, h.was.below k, cell_keep k h.q0, cell_keep k h.q1⟩
theorem PQ.onA (h : PQ w wx A B gx cx xs gy cy ys L c M d gw Q Z K) (p : PAp w A B gx gy) (q : QAp A gw Q) (k : Rest A wx wy) (s : Sht wy A 5 L' c') : PQ w wy A B gx cx xs gy cy ys L' c' M d gw Q Z K :=
  ⟨h.st.onA p k s, h.was.rest k q.w, (World.cell?_of_block (w := wx) (a := ⟨Q, 0, none⟩) (k.block Q (cell_block h.q0) q.q)).trans h.q0, (World.cell?_of_block (w := wx) (a := ⟨Q, 1, none⟩) (k.block Q (cell_block h.q0) q.q)).trans h.q1⟩
end
/-- A source in a block that an append did not turn. -/
theorem src_grown {w w' : World} {g m c : Nat} {news : List Value} {row : Option Nat} (h : Src w (.slice (some ⟨g, 0, none⟩) m c) m news) (k : w.grownBy w' row) (hg : some g ≠ row) (hlt : g < w.heap.size) : Src w' (.slice (some ⟨g, 0, none⟩) m c) m news := by
  obtain ⟨ad, c', e, h1, h2⟩ := h
  refine ⟨ad, c', e, h1, fun a ha j u hj => ?_⟩
  simp only [Value.slice.injEq] at e
  have e2 : a = ⟨g, 0, none⟩ := by
    rw [ha] at e
    simpa using e.1.symm
  have := h2 a ha j u hj
  rw [← this]
  subst e2
  exact World.cell?_of_block (k.block _ (by rw [Addr.add_lit]; exact hlt) (by rw [Addr.add_lit]; exact hg))

/-- The cells of the opposites of the first k entries. -/
def negC (zs : List Ent) (k : Nat) : List Value := ((zs.take k).map Ent.neg).flatMap Ent.f

/-- What the law asks, of numbers. -/
structure PFacts (xs ys : List Ent) (L1 M1 : List Int) : Prop where
  both : postB 5 (List.replicate 64 0) (xs ++ ys) = true ∧ postL 5 (List.replicate 64 0) (xs ++ ys) = L1 ∧ postC 5 (List.replicate 64 0) (xs ++ ys) 0 = 1
  first : postB 5 (List.replicate 64 0) xs = true ∧ postL 5 (List.replicate 64 0) xs = M1 ∧ postC 5 (List.replicate 64 0) xs 0 = 1
  then_ : postB 5 M1 ys = true ∧ postL 5 M1 ys = L1 ∧ postC 5 M1 ys 1 = 2
  out : ∀ k : Int, 0 ≤ k → postB 5 L1 (xs ++ [⟨5 + k, 0⟩]) = false ∧ postL 5 L1 (xs ++ [⟨5 + k, 0⟩]) = L1 ∧ postC 5 L1 (xs ++ [⟨5 + k, 0⟩]) 1 = 1
  one : postB 5 L1 [⟨0, 1⟩] = false ∧ postL 5 L1 [⟨0, 1⟩] = L1 ∧ postC 5 L1 [⟨0, 1⟩] 1 = 1
  back : postB 5 L1 ((xs ++ ys).map Ent.neg) = true ∧ postL 5 L1 ((xs ++ ys).map Ent.neg) = List.replicate 64 0 ∧ postC 5 L1 ((xs ++ ys).map Ent.neg) 1 = 2
  okL : ∀ x ∈ L1, amtOk x = true
  okM : ∀ x ∈ M1, amtOk x = true
  ix : ∀ e ∈ xs, I64 e.amt
  iy : ∀ e ∈ ys, I64 e.amt
  ixy : ∀ e ∈ xs ++ ys, I64 e.amt
  iout : ∀ k : Int, ∀ e ∈ xs ++ [(⟨5 + k, 0⟩ : Ent)], I64 e.amt
  iback : ∀ e ∈ (xs ++ ys).map Ent.neg, I64 e.amt
theorem parts_facts {xs ys : List Ent} (hx : EvenL xs) (hy : EvenL ys) : PFacts xs ys (addAll (List.replicate 64 0) (xs ++ ys)) (addAll (List.replicate 64 0) xs) := by
  have hxy : Small 5 8796093022208 (xs ++ ys) := hx.small.append hy.small
  have l1 := hx.pos; have l2 := hx.le; have l3 := hy.pos; have l4 := hy.le
  have hl : (xs ++ ys).length ≤ 18 := by rw [List.length_append]; omega
  have hp : 0 < (xs ++ ys).length := by rw [List.length_append]; omega
  have hs : sumA (xs ++ ys) = 0 := by rw [sumA_append, hx.sum, hy.sum]; rfl
  have bM : ∀ x ∈ addAll (List.replicate 64 0) xs, -79164837199872 ≤ x ∧ x ≤ 79164837199872 := fun x h => by
    have := hx.small.add 0 (zeros_bd 64) (by omega) x h
    omega
  have bL : ∀ x ∈ addAll (List.replicate 64 0) (xs ++ ys), -158329674399744 ≤ x ∧ x ≤ 158329674399744 := fun x h => by
    have := hxy.add 0 (zeros_bd 64) (by omega) x h
    omega
  refine ⟨hxy.posts (by omega) (by omega) (by omega) hp hs 0 (by omega) (zeros_bd 64) 0, hx.small.posts (by omega) (by omega) (by omega) l1 hx.sum 0 (by omega) (zeros_bd 64) 0, ?_, ?_, ?_, ?_, bd_ok (by omega) bL, bd_ok (by omega) bM, hx.small.i64 (by omega), hy.small.i64 (by omega), hxy.i64 (by omega), ?_, hxy.neg.i64 (by omega)⟩
  · have := hy.small.posts (bal := addAll (List.replicate 64 0) xs) (by omega) (by omega) (by omega) l3 hy.sum 79164837199872 (by omega) bM 1
    rw [addAll_append]
    exact this
  · intro k hk
    refine post_not 1 ?_
    unfold postB
    have ha : accOk 5 (xs ++ [⟨5 + k, 0⟩]) = false := accOk_false 5 (xs ++ [⟨5 + k, 0⟩]) ⟨5 + k, 0⟩ (by simp) (by simp only [Bool.and_eq_false_iff, decide_eq_false_iff_not]; omega)
    rw [ha]
    simp
  · refine post_not 1 ?_
    unfold postB
    rw [decide_eq_false (p := sumA [⟨0, 1⟩] = 0) (by decide)]
    simp
  · have := hxy.neg.posts (bal := addAll (List.replicate 64 0) (xs ++ ys)) (by omega) (by omega) (by rw [List.length_map]; omega) (by rw [List.length_map]; exact hp) (by rw [sumA_neg, hs]; rfl) 158329674399744 (by omega) bL 1
    rw [addAll_back hxy] at this
    exact this
  · intro k e he
    rcases List.mem_append.1 he with h | h
    · exact hx.small.i64 (by omega) e h
    · simp only [List.mem_singleton] at h
      subst h
      exact ⟨by simp, by simp⟩

theorem size_alloc (w : World) (o : Obj) : (w.alloc o).heap.size = w.heap.size + 1 := by simp
theorem make_five (wx : World) : (Instr.makeSlice 29 (.int .i64 5) (.int .i64 5)).run Try.prog wx = .ok (.slice (some ⟨wx.heap.size, 0, none⟩) 5 5) (wx.alloc (Obj.cells #[.int .i64 0, .int .i64 0, .int .i64 0, .int .i64 0, .int .i64 0] 3)) := by
  obtain ⟨i0, hi, hz0, hz1, hz2⟩ := info_parts Try.info_ints
  have := run_make (P := Try.prog) wx 29 3 i0 (.int .i64 0) Try.underlying29 hi hz0 .i64 .i64 5 5 (by omega) (Int.le_refl _) (by rw [hz2]; omega) (by omega)
  rw [this, hz1]
  have e : madeCells (Value.int .i64 0).cells ((5 : Int).toNat * 1) = #[.int .i64 0, .int .i64 0, .int .i64 0, .int .i64 0, .int .i64 0] := by kernel_rfl
  rw [e]
  rfl
set_option maxRecDepth 1000000 in
set_option maxHeartbeats 4000000 in
theorem sheetParts_any (v0 v1 v2 : Value) (w : World) (w0 : Arg w (.slice 2 (.struct (.cons 1 (.int .i64) (.cons 1 (.int .i64) .nil)))) v0) (w1 : Arg w (.slice 2 (.struct (.cons 1 (.int .i64) (.cons 1 (.int .i64) .nil)))) v1) (w2 : Arg w (.int .i64) v2) :
    Calls Try.prog 7 #[v0, v1, v2] w fun e w' => e = .returned (.bool true) ∧ Below w.heap.size w w' := by
  obtain ⟨i0, hi, hz0, hz1, hz2⟩ := info_parts Try.info_entry
  obtain ⟨es, hLa, _⟩ := arg_ents w0
  obtain ⟨fs, hLb, _⟩ := arg_ents w1
  obtain ⟨bad, rfl, _⟩ := arg_int w2
  clear w0 w1 w2
  have HLa : Hid (Lies 2 Ent.f w v0 es) := hLa
  have HLb : Hid (Lies 2 Ent.f w v1 fs) := hLb
  clear hLa hLb
  have en : accN 5 = 5 := by decide
  go_enter Try.func7, Try.ntmps7
  go_upto_region 4 with (go_at_call 8; refine (new_any _ _).mono ?_; first | (have _mark := SA1; rintro e wb ⟨rfl, sb, bb⟩; rw [en] at sb) | (rintro e wa ⟨rfl, sa, ba⟩; have SA1 := Hid (1 = 1); rw [en] at sa))
  obtain ⟨A, hA⟩ : ∃ A, w.heap.size = A := ⟨_, rfl⟩
  obtain ⟨B, hB⟩ : ∃ B, wa.heap.size = B := ⟨_, rfl⟩
  have hAB : A ≠ B := by rw [← hB]; exact Nat.ne_of_lt (by rw [← hA]; exact sa.lt)
  have hA0 : w.heap.size ≤ A := Nat.le_of_eq hA
  have hB0 : w.heap.size ≤ B := by rw [← hB]; exact ba.size
  rw [hA] at sa
  rw [hA, hB]
  rw [hB] at sb
  have sa2 := sa.then bb
  have b2 := below_then ba bb
  clear sa ba bb hA hB SA1
  have S2 : Hid (Sht wb A 5 (List.replicate 64 0) 0 ∧ Sht wb B 5 (List.replicate 64 0) 0 ∧ Below w.heap.size w wb) := ⟨sa2, sb, b2⟩
  have a1 := sa2.lt
  have b1 := sb.lt
  clear sa2 sb b2 en
  go_upto_region 5 with (first
    | (go_at_call_of 19 (v0); refine (even_any _ es wb (HLa.out.below S2.out.2.2)).mono ?_; rintro e w3 ⟨gx, cx, xs, rfl, gx0, ex, lx, b3⟩)
    | (go_at_call_of 19 (v1); refine (even_any _ fs w3 (HLb.out.below (below_then S2.out.2.2 b3))).mono ?_; rintro e w4 ⟨gy, cy, ys, rfl, gy0, ey, ly, b4⟩))
  have b3s := b3.size
  have hP : PAp w A B gx gy := ⟨hA0, hB0, hAB, by omega, by omega, by omega, by omega⟩
  have hSt : PSt w w4 A B gx cx xs gy cy ys (List.replicate 64 0) 0 (List.replicate 64 0) 0 := ⟨below_then (below_then S2.out.2.2 b3) b4, (S2.out.1.then b3).then b4, (S2.out.2.1.then b3).then b4, lx.below b4, ly⟩
  have HP : Hid (PAp w A B gx gy) := hP
  clear hP S2 HLa HLb lx ly b3 b4 b3s gx0 gy0 hA0 hB0 hAB a1 b1
  obtain ⟨nx, hnx⟩ : ∃ nx, xs.length = nx := ⟨_, rfl⟩
  obtain ⟨ny, hny⟩ : ∃ ny, ys.length = ny := ⟨_, rfl⟩
  rw [hnx, hny]
  have HNX : Hid (xs.length = nx ∧ ys.length = ny) := ⟨hnx, hny⟩
  have nx1 : 0 < nx ∧ nx ≤ 9 := by rw [← hnx]; exact ⟨ex.pos, ex.le⟩
  have ny1 : 0 < ny ∧ ny ≤ 9 := by rw [← hny]; exact ⟨ey.pos, ey.le⟩
  have HEx : Hid (EvenL xs ∧ EvenL ys) := ⟨ex, ey⟩
  obtain ⟨L1, hL1⟩ : ∃ L1, addAll (List.replicate 64 0) (xs ++ ys) = L1 := ⟨_, rfl⟩
  obtain ⟨M1, hM1⟩ : ∃ M1, addAll (List.replicate 64 0) xs = M1 := ⟨_, rfl⟩
  have hF := parts_facts ex ey
  rw [hL1, hM1] at hF
  have HF : Hid (PFacts xs ys L1 M1) := hF
  have HZ : Hid (∀ x ∈ List.replicate 64 (0 : Int), amtOk x = true) := zeros_ok 64
  clear hnx hny ex ey hL1 hM1 hF HEx
  have O0 : Hid ((w4.alloc (.cells #[] 27)).ownsRow w4.heap.size 27 2 (.slice (some ⟨w4.heap.size, 0, none⟩) 0 0) 0 []) := World.ownsRow_lit (base := w4.heap.size) (size := 2) w4 #[] 0 (Nat.le_refl _) (by unfold maxLen; omega) rfl
  have B0 : Hid (Below w4.heap.size w4 (w4.alloc (.cells #[] 27))) := (Below.refl _ _).alloc (Nat.le_refl _) _
  have SX : Hid (Src (w4.alloc (.cells #[] 27)) (.slice (some ⟨gx, 0, none⟩) nx cx) nx (xs.flatMap Ent.f)) := by
    have := (hSt.lx.below B0.out).src Ent.len (by omega)
    rw [HNX.out.1] at this
    exact this
  have HSt : Hid (PSt w w4 A B gx cx xs gy cy ys (List.replicate 64 0) 0 (List.replicate 64 0) 0) := hSt
  clear hSt
  go_upto_region 7 with (first
    | (at_builtin; refine wpList_append_src rfl (.tmp 29) (.tmp 30) 34 rfl w4.heap.size 27 i0 (.agg #[.int .i64 0, .int .i64 0]) 2 16 Try.underlying34 hi hz0 hz1 hz2 rfl (by decide) (.slice (some ⟨w4.heap.size, 0, none⟩) 0 0) 0 [] rfl O0.out (.slice (some ⟨gx, 0, none⟩) nx cx) nx (xs.flatMap Ent.f) rfl SX.out (by rw [flat_length Ent.len, HNX.out.1]) (flat_one Ent.one) (by unfold maxLen; omega) (by omega) B0.out.size ?_; intro v1 w5 o1 g1 l1; have B1 : Hid (Below w4.heap.size w4 w5) := (below_grown B0.out g1 (fun k h => by simp [Value.ownBlock] at h; omega)); have O1 : Hid (w5.ownsRow w4.heap.size 27 2 v1 nx (xs.flatMap Ent.f)) := (by have := o1; rw [Nat.zero_add, List.nil_append] at this; exact this); clear o1 g1 l1)
    | (at_builtin; refine wpList_append_src rfl (.tmp 31) (.tmp 32) 34 rfl w4.heap.size 27 i0 (.agg #[.int .i64 0, .int .i64 0]) 2 16 Try.underlying34 hi hz0 hz1 hz2 rfl (by decide) v1 nx (xs.flatMap Ent.f) rfl O1.out (.slice (some ⟨gy, 0, none⟩) ny cy) ny (ys.flatMap Ent.f) rfl (by have h := (HSt.out.ly.below B1.out).src Ent.len (by omega); rw [HNX.out.2] at h; exact h) (by rw [flat_length Ent.len, HNX.out.2]) (flat_one Ent.one) (by unfold maxLen; omega) (by omega) B1.out.size ?_; intro v2 w6 o2 g2 l2; have B2 : Hid (Below w4.heap.size w4 w6) := (below_grown B1.out g2 (fun k h => (O1.out.lt k h).1)); have R2 : Hid (Lies 2 Ent.f w6 v2 (xs ++ ys)) := (by refine own_lies (base := w4.heap.size) (e := 27) (n := nx + ny) Ent.len ?_ (by rw [List.length_append, HNX.out.1, HNX.out.2]); rw [List.flatMap_append]; exact o2); have H6 : Hid (PSt w w6 A B gx cx xs gy cy ys (List.replicate 64 0) 0 (List.replicate 64 0) 0) := HSt.out.then B2.out; clear o2 g2 l2)
    | (go_at_call_of 10 (A); refine (post_to H6.out.sA R2.out HF.out.ixy HZ.out (by omega) (by omega) HF.out.both.1 HF.out.both.2.1 HF.out.both.2.2).mono ?_; rintro e w7 ⟨rfl, s7, r7⟩; have H7 : Hid (PSt w w7 A B gx cx xs gy cy ys L1 1 (List.replicate 64 0) 0) := H6.out.onA HP.out r7 s7; clear s7 r7)
    | (go_at_call_of 10 (gx); refine (post_to H7.out.sB (by have := H7.out.lx; rw [HNX.out.1] at this; exact this) HF.out.ix HZ.out (by omega) (by omega) HF.out.first.1 HF.out.first.2.1 HF.out.first.2.2).mono ?_; rintro e w8 ⟨rfl, s8, r8⟩; have H8 : Hid (PSt w w8 A B gx cx xs gy cy ys L1 1 M1 1) := H7.out.onB HP.out r8 s8; clear s8 r8)
    | (go_at_call_of 10 (gy); refine (post_to H8.out.sB (by have := H8.out.ly; rw [HNX.out.2] at this; exact this) HF.out.iy HF.out.okM (by omega) (by omega) HF.out.then_.1 HF.out.then_.2.1 HF.out.then_.2.2).mono ?_; rintro e w9 ⟨rfl, s9, r9⟩; have H9 : Hid (PSt w w9 A B gx cx xs gy cy ys L1 1 L1 2) := H8.out.onB HP.out r9 s9; clear s9 r9)
    | (go_at_call_of 12 (A); refine (balances_any _ _ _ _ _ H9.out.sA).mono ?_; rintro e wA ⟨rfl, dA, bA⟩)
    | (go_at_call_of 12 (B); refine (balances_any _ _ _ _ _ (H9.out.sB.then bA)).mono ?_; rintro e wB ⟨rfl, dB, bB⟩)
    | (go_at_call 11; refine (same_any _ _ (L1.take 5) _ (dA.below bB) dB).mono ?_; rintro e wS ⟨rfl, mS, rfl⟩))
  refine wp_letter (fun wx => PSt w wx A B gx cx xs gy cy ys L1 1 L1 2) ((H9.out.then (below_then bA bB)).then (below_draws (Below.refl _ _) _)) ?_
  intro V hV
  clear dA bA dB bB O0 B0 SX HSt B1 O1 B2 R2 H6 H7 H8 H9 HZ
  obtain ⟨K, hK⟩ : ∃ K, 0 + bad % (9 - 0 + 1) = K := ⟨_, rfl⟩
  have hbk := within_bd bad 0 9 (by omega)
  rw [hK] at hbk
  have E1 : Hid (0 + bad % (9 - 0 + 1) = K) := hK
  obtain ⟨K0, K1⟩ := hbk
  clear hK
  have HV : Hid (PSt w V A B gx cx xs gy cy ys L1 1 L1 2) := hV
  clear hV
  go_upto_region 9 with (first
    | (go_at_call 12; refine (balances_any _ _ _ _ _ HV.out.sA).mono ?_; rintro e wD ⟨rfl, dD, bD⟩)
    | (go_at_call 14; refine (within_any _ _ _ (by omega) (by omega) (by omega) (by omega) _).mono ?_; rintro e wq ⟨rfl, hq⟩; have hq := hq.symm; subst hq; rw [E1.out]))
  have hlA := HV.out.sA.lt
  have hlD := bD.size
  have hq := HV.out.then bD
  refine wp_letter (fun wx => ∃ gw Q, V.heap.size = gw ∧ wD.heap.size = Q ∧ QAp A gw Q ∧ PQ w wx A B gx cx xs gy cy ys L1 1 L1 2 gw Q (L1.take 5) (5 + K)) ⟨_, _, rfl, rfl, ⟨by omega, by omega⟩, hq.then (below_alloc (Below.refl _ _) _), dD.below (below_alloc (Below.refl _ _) _), by simp [go_sem], by simp [go_sem]⟩ ?_
  rintro X ⟨gw, Q, eg, eQ, hQA, hX⟩
  rw [eg, eQ]
  have HQA : Hid (QAp A gw Q) := hQA
  have HX : Hid (PQ w X A B gx cx xs gy cy ys L1 1 L1 2 gw Q (L1.take 5) (5 + K)) := hX
  clear eg eQ hX hQA dD bD hlA hlD hq HV E1
  have O0 : Hid ((X.alloc (.cells #[] 27)).drew.ownsRow X.heap.size 27 2 (.slice (some ⟨X.heap.size, 0, none⟩) 0 0) 0 []) := (World.ownsRow_lit (base := X.heap.size) (size := 2) X #[] 0 (Nat.le_refl _) (by unfold maxLen; omega) rfl).drew
  have OB : Hid (((X.alloc (.cells #[] 27)).alloc (Obj.cells #[.int .i64 (5 + K), .int .i64 0] 27)).drew.ownsRow X.heap.size 27 2 (.slice (some ⟨X.heap.size, 0, none⟩) 0 0) 0 []) := ((World.ownsRow_lit (base := X.heap.size) (size := 2) X #[] 0 (Nat.le_refl _) (by unfold maxLen; omega) rfl).alloc _).drew
  have OC : Hid (((X.alloc (Obj.cells #[.int .i64 (5 + K), .int .i64 0] 27)).alloc (.cells #[] 27)).drew.ownsRow X.heap.size 27 2 (.slice (some ⟨X.heap.size + 1, 0, none⟩) 0 0) 0 []) := by
    have := (World.ownsRow_lit (base := X.heap.size) (e := 27) (size := 2) (X.alloc (Obj.cells #[.int .i64 (5 + K), .int .i64 0] 27)) #[] 0 (by simp) (by unfold maxLen; omega) rfl).drew
    show World.ownsRow _ _ _ _ _ _ _
    simpa using this
  have BA : Hid (Below X.heap.size X (X.alloc (.cells #[] 27)).drew) := (below_alloc (Below.refl _ _) _).drew
  have BB : Hid (Below X.heap.size X ((X.alloc (.cells #[] 27)).alloc (Obj.cells #[.int .i64 (5 + K), .int .i64 0] 27)).drew) := (below_alloc (below_alloc (Below.refl _ _) _) _).drew
  have BC : Hid (Below X.heap.size X ((X.alloc (Obj.cells #[.int .i64 (5 + K), .int .i64 0] 27)).alloc (.cells #[] 27)).drew) := (below_alloc (below_alloc (Below.refl _ _) _) _).drew
  have SX : Hid (∀ wx, Below X.heap.size X wx → Src wx (.slice (some ⟨gx, 0, none⟩) nx cx) nx (xs.flatMap Ent.f)) := fun wx bx => by
    have := (HX.out.st.lx.below bx).src Ent.len (by omega)
    rw [HNX.out.1] at this
    exact this
  have SB : Hid (Src ((X.alloc (.cells #[] 27)).alloc (Obj.cells #[.int .i64 (5 + K), .int .i64 0] 27)).drew (.slice (some ⟨X.heap.size + 1, 0, none⟩) 1 1) 1 (Ent.f ⟨5 + K, 0⟩)) := by
    obtain ⟨ad, c, e, h1, h2⟩ := src_new (X.alloc (.cells #[] 27)) (Ent.f ⟨5 + K, 0⟩) 1 27
    refine ⟨ad, c, ?_, h1, h2⟩
    simpa using e
  have SC : Hid (Src ((X.alloc (Obj.cells #[.int .i64 (5 + K), .int .i64 0] 27)).alloc (.cells #[] 27)).drew (.slice (some ⟨X.heap.size, 0, none⟩) 1 1) 1 (Ent.f ⟨5 + K, 0⟩)) := by
    obtain ⟨ad, c, e, h1, h2⟩ := src_new X (Ent.f ⟨5 + K, 0⟩) 1 27
    exact ⟨ad, c, e, h1, fun a ha j u hj => cell_keep ((below_alloc (Below.refl _ _) _).drew) (h2 a ha j u hj)⟩
  have L2 : Hid (∀ wx : World, Lies 2 Ent.f (wx.alloc (.cells #[.int .i64 0, .int .i64 1] 27)) (.slice (some ⟨wx.heap.size, 0, none⟩) 1 1) [⟨0, 1⟩]) := fun wx => lies_new Ent.len wx [⟨0, 1⟩] 27 (by unfold maxLen; simp)
  have I2 : Hid (∀ e ∈ ([⟨0, 1⟩] : List Ent), I64 e.amt) := by
    intro e he
    simp only [List.mem_cons, List.not_mem_nil, or_false] at he
    rcases he with rfl; exact ⟨by simp only; omega, by simp only; omega⟩
  have z5 : IntKind.i64.wrap (5 + K) = 5 + K := wrap_in _ (by omega) (by omega)
  go_cut [82] (fun t wx => t = .bool false ∧ PSt w wx A B gx cx xs gy cy ys L1 1 L1 2)
  case first =>
    go_region_held3 (fun wx => wx.cell? ⟨Q, 0, none⟩ = some (.int .i64 (5 + K)) ∧ wx.cell? ⟨Q, 1, none⟩ = some (.int .i64 0)) ((first | exact ⟨(HS.out.then (by repeat (first | with_reducible exact Below.refl _ _ | with_reducible refine Below.drew ?_ | with_reducible refine below_alloc ?_ _))).q0, (HS.out.then (by repeat (first | with_reducible exact Below.refl _ _ | with_reducible refine Below.drew ?_ | with_reducible refine below_alloc ?_ _))).q1⟩ | exact ⟨(H9.out.then (by repeat (first | with_reducible exact Below.refl _ _ | with_reducible refine Below.drew ?_ | with_reducible refine below_alloc ?_ _))).q0, (H9.out.then (by repeat (first | with_reducible exact Below.refl _ _ | with_reducible refine Below.drew ?_ | with_reducible refine below_alloc ?_ _))).q1⟩ | exact ⟨(H8.out.then (by repeat (first | with_reducible exact Below.refl _ _ | with_reducible refine Below.drew ?_ | with_reducible refine below_alloc ?_ _))).q0, (H8.out.then (by repeat (first | with_reducible exact Below.refl _ _ | with_reducible refine Below.drew ?_ | with_reducible refine below_alloc ?_ _))).q1⟩ | exact ⟨(H7.out.then (by repeat (first | with_reducible exact Below.refl _ _ | with_reducible refine Below.drew ?_ | with_reducible refine below_alloc ?_ _))).q0, (H7.out.then (by repeat (first | with_reducible exact Below.refl _ _ | with_reducible refine Below.drew ?_ | with_reducible refine below_alloc ?_ _))).q1⟩ | exact ⟨(H6.out.then (by repeat (first | with_reducible exact Below.refl _ _ | with_reducible refine Below.drew ?_ | with_reducible refine below_alloc ?_ _))).q0, (H6.out.then (by repeat (first | with_reducible exact Below.refl _ _ | with_reducible refine Below.drew ?_ | with_reducible refine below_alloc ?_ _))).q1⟩ | exact ⟨(H5.out.then (by repeat (first | with_reducible exact Below.refl _ _ | with_reducible refine Below.drew ?_ | with_reducible refine below_alloc ?_ _))).q0, (H5.out.then (by repeat (first | with_reducible exact Below.refl _ _ | with_reducible refine Below.drew ?_ | with_reducible refine below_alloc ?_ _))).q1⟩ | exact ⟨(HX.out.then (by repeat (first | with_reducible exact Below.refl _ _ | with_reducible refine Below.drew ?_ | with_reducible refine below_alloc ?_ _))).q0, (HX.out.then (by repeat (first | with_reducible exact Below.refl _ _ | with_reducible refine Below.drew ?_ | with_reducible refine below_alloc ?_ _))).q1⟩)) (first
      | ((refine step_append_src (by rfl) (.tmp 63) (.tmp 64) 34 (by rfl) X.heap.size 27 i0 (.agg #[.int .i64 0, .int .i64 0]) 2 16 Try.underlying34 hi hz0 hz1 hz2 rfl (by decide) (.slice (some ⟨X.heap.size, 0, none⟩) 0 0) 0 [] (by rfl) O0.out (.slice (some ⟨gx, 0, none⟩) nx cx) nx (xs.flatMap Ent.f) (by rfl) (SX.out _ BA.out) (by rw [flat_length Ent.len, HNX.out.1]) (flat_one Ent.one) (by unfold maxLen; omega) (by omega) BA.out.size ?_; intro v5 w5 o5 g5 l5; have B5 : Hid (Below X.heap.size X w5) := (below_grown BA.out g5 (fun k h => by simp [Value.ownBlock] at h; omega)); have B5a : Hid (Below X.heap.size X (w5.alloc (Obj.cells #[.int .i64 (5 + K), .int .i64 0] 27))) := below_alloc B5.out _; have O5 : Hid (w5.ownsRow X.heap.size 27 2 v5 nx (xs.flatMap Ent.f)) := (by have := o5; rw [Nat.zero_add, List.nil_append] at this; exact this); have H5 : Hid (PQ w w5 A B gx cx xs gy cy ys L1 1 L1 2 gw Q (L1.take 5) (5 + K)) := HX.out.then B5.out; clear o5 g5 l5))
      | ((refine step_append_src (by rfl) (.tmp 63) (.tmp 64) 34 (by rfl) X.heap.size 27 i0 (.agg #[.int .i64 0, .int .i64 0]) 2 16 Try.underlying34 hi hz0 hz1 hz2 rfl (by decide) (.slice (some ⟨X.heap.size, 0, none⟩) 0 0) 0 [] (by rfl) OB.out (.slice (some ⟨gx, 0, none⟩) nx cx) nx (xs.flatMap Ent.f) (by rfl) (SX.out _ BB.out) (by rw [flat_length Ent.len, HNX.out.1]) (flat_one Ent.one) (by unfold maxLen; omega) (by omega) BB.out.size ?_; intro v5 w5 o5 g5 l5; have B5 : Hid (Below X.heap.size X w5) := (below_grown BB.out g5 (fun k h => by simp [Value.ownBlock] at h; omega)); have O5 : Hid (w5.ownsRow X.heap.size 27 2 v5 nx (xs.flatMap Ent.f)) := (by have := o5; rw [Nat.zero_add, List.nil_append] at this; exact this); have R5 := src_grown SB.out g5 (by simp [Value.ownBlock]) (by simp; try omega); have R5 : Hid _ := R5; have H5 : Hid (PQ w w5 A B gx cx xs gy cy ys L1 1 L1 2 gw Q (L1.take 5) (5 + K)) := HX.out.then B5.out; clear o5 g5 l5))
      | ((refine step_append_src (by rfl) (.tmp 63) (.tmp 64) 34 (by rfl) X.heap.size 27 i0 (.agg #[.int .i64 0, .int .i64 0]) 2 16 Try.underlying34 hi hz0 hz1 hz2 rfl (by decide) (.slice (some ⟨X.heap.size + 1, 0, none⟩) 0 0) 0 [] (by rfl) OC.out (.slice (some ⟨gx, 0, none⟩) nx cx) nx (xs.flatMap Ent.f) (by rfl) (SX.out _ BC.out) (by rw [flat_length Ent.len, HNX.out.1]) (flat_one Ent.one) (by unfold maxLen; omega) (by omega) BC.out.size ?_; intro v5 w5 o5 g5 l5; have B5 : Hid (Below X.heap.size X w5) := (below_grown BC.out g5 (fun k h => by simp [Value.ownBlock] at h; omega)); have O5 : Hid (w5.ownsRow X.heap.size 27 2 v5 nx (xs.flatMap Ent.f)) := (by have := o5; rw [Nat.zero_add, List.nil_append] at this; exact this); have R5 := src_grown SC.out g5 (by simp [Value.ownBlock]) (by simp; try omega); have R5 : Hid _ := R5; have H5 : Hid (PQ w w5 A B gx cx xs gy cy ys L1 1 L1 2 gw Q (L1.take 5) (5 + K)) := HX.out.then B5.out; clear o5 g5 l5))
      | ((refine step_append_src (by rfl) (.tmp 65) (.tmp 67) 34 (by rfl) X.heap.size 27 i0 (.agg #[.int .i64 0, .int .i64 0]) 2 16 Try.underlying34 hi hz0 hz1 hz2 rfl (by decide) v5 nx (xs.flatMap Ent.f) (by rfl) (O5.out.alloc _) (.slice (some ⟨w5.heap.size, 0, none⟩) 1 1) 1 (Ent.f ⟨5 + K, 0⟩) (by rfl) (src_new _ _ 1 _) rfl (Ent.one _) (by unfold maxLen; omega) (by omega) B5a.out.size ?_; intro v6 w6 o6 g6 l6; have B6 : Hid (Below X.heap.size X w6) := (below_grown B5a.out g6 (fun k h => (O5.out.lt k h).1)); have R6 : Hid (Lies 2 Ent.f w6 v6 (xs ++ [⟨5 + K, 0⟩])) := (by refine own_lies (base := X.heap.size) (e := 27) (n := nx + 1) Ent.len ?_ (by rw [List.length_append, HNX.out.1]; rfl); rw [List.flatMap_append]; simpa using o6); have H6 : Hid (PQ w w6 A B gx cx xs gy cy ys L1 1 L1 2 gw Q (L1.take 5) (5 + K)) := HX.out.then B6.out; clear o6 g6 l6))
      | ((refine step_append_src (by rfl) (.tmp 65) (.tmp 67) 34 (by rfl) X.heap.size 27 i0 (.agg #[.int .i64 0, .int .i64 0]) 2 16 Try.underlying34 hi hz0 hz1 hz2 rfl (by decide) v5 nx (xs.flatMap Ent.f) (by rfl) O5.out (.slice (some ⟨X.heap.size + 1, 0, none⟩) 1 1) 1 (Ent.f ⟨5 + K, 0⟩) (by rfl) R5.out rfl (Ent.one _) (by unfold maxLen; omega) (by omega) B5.out.size ?_; intro v6 w6 o6 g6 l6; have B6 : Hid (Below X.heap.size X w6) := (below_grown B5.out g6 (fun k h => (O5.out.lt k h).1)); have R6 : Hid (Lies 2 Ent.f w6 v6 (xs ++ [⟨5 + K, 0⟩])) := (by refine own_lies (base := X.heap.size) (e := 27) (n := nx + 1) Ent.len ?_ (by rw [List.length_append, HNX.out.1]; rfl); rw [List.flatMap_append]; simpa using o6); have H6 : Hid (PQ w w6 A B gx cx xs gy cy ys L1 1 L1 2 gw Q (L1.take 5) (5 + K)) := HX.out.then B6.out; clear o6 g6 l6))
      | ((refine step_append_src (by rfl) (.tmp 65) (.tmp 67) 34 (by rfl) X.heap.size 27 i0 (.agg #[.int .i64 0, .int .i64 0]) 2 16 Try.underlying34 hi hz0 hz1 hz2 rfl (by decide) v5 nx (xs.flatMap Ent.f) (by rfl) O5.out (.slice (some ⟨X.heap.size, 0, none⟩) 1 1) 1 (Ent.f ⟨5 + K, 0⟩) (by rfl) R5.out rfl (Ent.one _) (by unfold maxLen; omega) (by omega) B5.out.size ?_; intro v6 w6 o6 g6 l6; have B6 : Hid (Below X.heap.size X w6) := (below_grown B5.out g6 (fun k h => (O5.out.lt k h).1)); have R6 : Hid (Lies 2 Ent.f w6 v6 (xs ++ [⟨5 + K, 0⟩])) := (by refine own_lies (base := X.heap.size) (e := 27) (n := nx + 1) Ent.len ?_ (by rw [List.length_append, HNX.out.1]; rfl); rw [List.flatMap_append]; simpa using o6); have H6 : Hid (PQ w w6 A B gx cx xs gy cy ys L1 1 L1 2 gw Q (L1.take 5) (5 + K)) := HX.out.then B6.out; clear o6 g6 l6))
      | ((go_at_call_of 10 (v6); refine (post_to H6.out.st.sA R6.out (HF.out.iout K) HF.out.okL (by omega) (by omega) (HF.out.out K K0).1 (HF.out.out K K0).2.1 (HF.out.out K K0).2.2).mono ?_; rintro e w7 ⟨rfl, s7, r7⟩; have H7 : Hid (PQ w w7 A B gx cx xs gy cy ys L1 1 L1 2 gw Q (L1.take 5) (5 + K)) := H6.out.onA HP.out HQA.out r7 s7; clear s7 r7))
      | ((go_at_call 10; refine (post_to (H7.out.st.sA.then (below_alloc (Below.refl _ _) _)) (L2.out w7) I2.out HF.out.okL (by omega) (by omega) HF.out.one.1 HF.out.one.2.1 HF.out.one.2.2).mono ?_; rintro e w8 ⟨rfl, s8, r8⟩; have H8 : Hid (PQ w w8 A B gx cx xs gy cy ys L1 1 L1 2 gw Q (L1.take 5) (5 + K)) := (H7.out.then (below_alloc (Below.refl _ _) _)).onA HP.out HQA.out r8 s8; clear s8 r8))
      | ((go_at_call 12; refine (balances_any _ _ _ _ _ H8.out.st.sA).mono ?_; rintro e w9 ⟨rfl, d9, b9⟩; have H9 : Hid (PQ w w9 A B gx cx xs gy cy ys L1 1 L1 2 gw Q (L1.take 5) (5 + K)) := H8.out.then b9; have D9 : Hid (Reads w9 (.slice (some ⟨w8.heap.size, 0, none⟩) 5 5) (L1.take 5)) := d9; clear d9 b9))
      | ((go_at_call 11; refine (same_any _ _ (L1.take 5) _ D9.out H9.out.was).mono ?_; rintro e wS ⟨rfl, mS, rfl⟩; have HS : Hid (PQ w (w9.drewN mS) A B gx cx xs gy cy ys L1 1 L1 2 gw Q (L1.take 5) (5 + K)) := H9.out.then (below_draws (Below.refl _ _) _))))
    all_goals
      go_wp2
      go_meet
      case rel => exact ⟨rfl, HS.out.st⟩
  case rest =>
  obtain ⟨rfl, hc⟩ := hcut
  clear O0 OB OC BA BB BC SX SB SC L2 I2 HX HQA z5
  have HC : Hid (PSt w wc A B gx cx xs gy cy ys L1 1 L1 2) := hc
  clear hc
  have O0 : Hid ((wc.alloc (.cells #[] 27)).ownsRow wc.heap.size 27 2 (.slice (some ⟨wc.heap.size, 0, none⟩) 0 0) 0 []) := World.ownsRow_lit (base := wc.heap.size) (size := 2) wc #[] 0 (Nat.le_refl _) (by unfold maxLen; omega) rfl
  have B0 : Hid (Below wc.heap.size wc (wc.alloc (.cells #[] 27))) := (Below.refl _ _).alloc (Nat.le_refl _) _
  have SX : Hid (Src (wc.alloc (.cells #[] 27)) (.slice (some ⟨gx, 0, none⟩) nx cx) nx (xs.flatMap Ent.f)) := by
    have := (HC.out.lx.below B0.out).src Ent.len (by omega)
    rw [HNX.out.1] at this
    exact this
  go_upto_block 3 with (first
    | (at_builtin; refine wpList_append_src rfl (.tmp 83) (.tmp 84) 34 rfl wc.heap.size 27 i0 (.agg #[.int .i64 0, .int .i64 0]) 2 16 Try.underlying34 hi hz0 hz1 hz2 rfl (by decide) (.slice (some ⟨wc.heap.size, 0, none⟩) 0 0) 0 [] rfl O0.out (.slice (some ⟨gx, 0, none⟩) nx cx) nx (xs.flatMap Ent.f) rfl SX.out (by rw [flat_length Ent.len, HNX.out.1]) (flat_one Ent.one) (by unfold maxLen; omega) (by omega) B0.out.size ?_; intro v5 w5 o5 g5 l5; have B5 : Hid (Below wc.heap.size wc w5) := (below_grown B0.out g5 (fun k h => by simp [Value.ownBlock] at h; omega)); have O5 : Hid (w5.ownsRow wc.heap.size 27 2 v5 nx (xs.flatMap Ent.f)) := (by have := o5; rw [Nat.zero_add, List.nil_append] at this; exact this); clear o5 g5 l5)
    | (at_builtin; refine wpList_append_src rfl (.tmp 85) (.tmp 86) 34 rfl wc.heap.size 27 i0 (.agg #[.int .i64 0, .int .i64 0]) 2 16 Try.underlying34 hi hz0 hz1 hz2 rfl (by decide) v5 nx (xs.flatMap Ent.f) rfl O5.out (.slice (some ⟨gy, 0, none⟩) ny cy) ny (ys.flatMap Ent.f) rfl (by have h := (HC.out.ly.below B5.out).src Ent.len (by omega); rw [HNX.out.2] at h; exact h) (by rw [flat_length Ent.len, HNX.out.2]) (flat_one Ent.one) (by unfold maxLen; omega) (by omega) B5.out.size ?_; intro v6 w6 o6 g6 l6; have B6 : Hid (Below wc.heap.size wc w6) := (below_grown B5.out g6 (fun k h => (O5.out.lt k h).1)); have O6 : Hid (w6.ownsRow wc.heap.size 27 2 v6 (nx + ny) ((xs ++ ys).flatMap Ent.f)) := (by rw [List.flatMap_append]; exact o6); clear o6 g6 l6; (obtain ⟨g6, c6, e6, _, _, _⟩ := own_form O6.out (by omega)); subst e6))
  have HR6 : Hid (Lies 2 Ent.f w6 (.slice (some ⟨g6, 0, none⟩) (nx + ny) c6) (xs ++ ys)) := own_lies Ent.len O6.out (by rw [List.length_append, HNX.out.1, HNX.out.2])
  have H6 : Hid (PSt w w6 A B gx cx xs gy cy ys L1 1 L1 2) := HC.out.then B6.out
  clear O0 B0 SX B5 O5 B6 O6 HC
  obtain ⟨N, hN⟩ : ∃ N, nx + ny = N := ⟨_, rfl⟩
  have hN2 : N ≤ 18 := by omega
  have HLN : Hid ((xs ++ ys).length = N) := by show _ = _; rw [List.length_append, HNX.out.1, HNX.out.2, hN]
  have e88 : (nx : Int) + (ny : Int) = (N : Int) := by omega
  rw [hN] at HR6 ⊢
  try rw [e88]
  clear e88
  have HT : Hid ((xs ++ ys).take N = xs ++ ys) := by show _ = _; rw [← HLN.out]; exact List.take_length
  go_loopw [13, 89] (fun v i wr => ∃ k : Nat, k ≤ N ∧ i = .int .i64 k ∧ wr.ownsRow w6.heap.size 27 2 v k (negC (xs ++ ys) k) ∧ Below w6.heap.size w6 wr) (fun _ i _ => N - (intOf i).toNat)
  case atStart => exact ⟨0, by omega, rfl, World.ownsRow_nil _ _ _ _, Below.refl _ _⟩
  case round =>
  obtain ⟨k, hk, rfl, hO, hBr⟩ := hrel
  by_cases hlt : k < N
  · obtain ⟨b, off, ac, am, e1, ek, c0, c1⟩ := HR6.out.ent k hlt
    simp only [Option.some.injEq, Addr.mk.injEq] at e1
    obtain ⟨rfl, rfl, _⟩ := e1
    rw [Nat.zero_add] at c0 c1
    replace c0 := cell_keep hBr c0
    replace c1 := cell_keep hBr c1
    have ham : I64 (-am) := HF.out.iback ⟨ac, -am⟩ (List.mem_map.2 ⟨⟨ac, am⟩, List.mem_of_getElem? ek, rfl⟩)
    have hneg : IntKind.i64.wrap (-am) = -am := wrap_in _ ham.1 ham.2
    have HE : Hid (negC (xs ++ ys) (k + 1) = negC (xs ++ ys) k ++ Ent.f ⟨ac, -am⟩) := by
      show _ = _
      unfold negC
      obtain ⟨hk', e⟩ := List.getElem?_eq_some_iff.1 ek
      rw [List.take_succ_eq_append_getElem hk', e]
      simp [Ent.neg]
    have HBr : Hid (Below w6.heap.size w6 wr) := hBr
    have HO : Hid (wr.ownsRow w6.heap.size 27 2 u13 k (negC (xs ++ ys) k)) := hO
    have hlt2 : (k : Int) < (N : Int) := by omega
    clear ham ek hO hBr
    go_upto_region 15 with fail
    refine wp_letter (fun wx => Below wr.heap.size wr wx ∧ ∃ Q, wr.heap.size = Q ∧ wx.cell? ⟨Q, 0, none⟩ = some (.int .i64 ac) ∧ wx.cell? ⟨Q, 1, none⟩ = some (.int .i64 am)) ⟨below_alloc (Below.refl _ _) _, _, rfl, by simp [go_sem], by simp [go_sem]⟩ ?_
    clear c0 c1
    rintro Y ⟨hY, Q, eQ, q0, q1⟩
    rw [eQ]
    have ho := own_below HO.out hY
    have hBw := below_then HBr.out hY
    clear eQ
    go_wp2_with (at_builtin; refine wpList_append_src rfl (.tmp 93) (.tmp 100) 34 rfl w6.heap.size 27 i0 (.agg #[.int .i64 0, .int .i64 0]) 2 16 Try.underlying34 hi hz0 hz1 hz2 rfl (by decide) _ _ _ rfl (ho.alloc _) _ 1 (Ent.f ⟨ac, -am⟩) rfl (src_new _ _ 1 _) rfl (Ent.one _) ?c1 ?c2 ?c3 ?_)
    case c1 => unfold maxLen; omega
    case c2 => omega
    case c3 => have h1 := hBw.size; simp; omega
    intro v' w2 hown' hgrow _
    have hb1 := below_append hBw ho hgrow
    clear ho hgrow hY q0 q1 hBw
    go_wp2
    go_roundw
    case rel => exact ⟨k + 1, by omega, by go_num, by rw [HE.out]; exact hown', hb1⟩
    case measure => simp [intOf]; omega
  · have hkN : k = N := by omega
    rw [hkN, negC, HT.out] at hO
    have HRB : Hid (Lies 2 Ent.f wr u13 ((xs ++ ys).map Ent.neg)) := own_lies Ent.len hO (by rw [List.length_map, HLN.out])
    have HB : Hid (PSt w wr A B gx cx xs gy cy ys L1 1 L1 2) := H6.out.then hBr
    clear hO hBr hkN
    have mk5 : ∀ wx : World, (Instr.makeSlice 29 (.int .i64 5) (.int .i64 5)).run Try.prog wx = .ok (.slice (some ⟨wx.heap.size, 0, none⟩) 5 5) (wx.alloc (Obj.cells #[.int .i64 0, .int .i64 0, .int .i64 0, .int .i64 0, .int .i64 0] 3)) := make_five
    have R5 : Hid (∀ wx : World, Reads (wx.alloc (Obj.cells #[.int .i64 0, .int .i64 0, .int .i64 0, .int .i64 0, .int .i64 0] 3)) (.slice (some ⟨wx.heap.size, 0, none⟩) 5 5) [0, 0, 0, 0, 0]) := fun wx => reads_new wx [0, 0, 0, 0, 0] 3 (by unfold maxLen; simp)
    have HZ5 : Hid ((List.replicate 64 (0 : Int)).take 5 = [0, 0, 0, 0, 0]) := rfl
    go_upto_region 17 with fail
    go_region_held3 (fun _ => True) (trivial) (first
      | ((go_at_call 10; refine (post_to (HB.out.then (by repeat (first | with_reducible exact Below.refl _ _ | with_reducible refine Below.drew ?_ | with_reducible refine below_alloc ?_ _))).sA (HRB.out.below (by repeat (first | with_reducible exact Below.refl _ _ | with_reducible refine Below.drew ?_ | with_reducible refine below_alloc ?_ _))) HF.out.iback HF.out.okL (by omega) (by omega) HF.out.back.1 HF.out.back.2.1 HF.out.back.2.2).mono ?_; rintro e w7 ⟨rfl, s7, r7⟩; have H7 : Hid (PSt w w7 A B gx cx xs gy cy ys (List.replicate 64 0) 2 L1 2) := (HB.out.then (by repeat (first | with_reducible exact Below.refl _ _ | with_reducible refine Below.drew ?_ | with_reducible refine below_alloc ?_ _))).onA HP.out r7 s7; clear s7 r7))
      | ((go_at_call 12; refine (balances_any _ _ _ _ _ (H7.out.then (by repeat (first | with_reducible exact Below.refl _ _ | with_reducible refine Below.drew ?_ | with_reducible refine below_alloc ?_ _))).sA).mono ?_; rintro e w8 ⟨rfl, d8, b8⟩; rw [HZ5.out] at d8; (try rw [size_alloc] at d8); have H8 : Hid (PSt w w8 A B gx cx xs gy cy ys (List.replicate 64 0) 2 L1 2) := (H7.out.then (by repeat (first | with_reducible exact Below.refl _ _ | with_reducible refine Below.drew ?_ | with_reducible refine below_alloc ?_ _))).then b8))
      | ((go_at_call_of 11 (w8.heap.size); refine (same_any _ _ [0, 0, 0, 0, 0] _ (d8.below (by repeat (first | with_reducible exact Below.refl _ _ | with_reducible refine Below.drew ?_ | with_reducible refine below_alloc ?_ _))) (R5.out w8)).mono ?_; rintro e w9 ⟨rfl, m9, rfl⟩; have H9 : Hid (PSt w ((w8.alloc (Obj.cells #[.int .i64 0, .int .i64 0, .int .i64 0, .int .i64 0, .int .i64 0] 3)).drewN m9) A B gx cx xs gy cy ys (List.replicate 64 0) 2 L1 2) := (H8.out.then (by repeat (first | with_reducible exact Below.refl _ _ | with_reducible refine Below.drew ?_ | with_reducible refine below_alloc ?_ _))).then (below_draws (Below.refl _ _) _)))
      | ((go_at_call 11; refine (same_any _ _ [0, 0, 0, 0, 0] _ d8 ((R5.out w7).below b8)).mono ?_; rintro e w9 ⟨rfl, m9, rfl⟩; have H9 : Hid (PSt w (w8.drewN m9) A B gx cx xs gy cy ys (List.replicate 64 0) 2 L1 2) := H8.out.then (below_draws (Below.refl _ _) _)))
      | ((go_at_call_of 13 (A); refine (count_any _ _ _ _ _ H9.out.sA).mono ?_; rintro e wq ⟨rfl, hq⟩; have hq := hq.symm; subst hq))
      | ((go_at_call_of 13 (B); refine (count_any _ _ _ _ _ H9.out.sB).mono ?_; rintro e wq ⟨rfl, hq⟩; have hq := hq.symm; subst hq))
      | ((go_at_call 3; refine (sheetRuns_any _).mono ?_; rintro e wz ⟨rfl, bz⟩)))
    all_goals
      go_wp2
      go_ret
      exact ⟨rfl, below_then H9.out.below bz⟩
end Go.Proofs.Ytolbgemaildbkaa
